"""Reads looks and finds styles in another way than the program, to compare the two: by patterns, and from each node
outwards."""

import re

WORD = "[a-z][a-z-]{0,11}"
TEST = rf"(?:#{WORD}|\.{WORD}|\[{WORD}(?:=[a-z0-9-]{{1,12}})?\]|:first)"
COMPOUND = rf"(?:(?:{WORD}|\*){TEST}*|{TEST}+)"
SELECTOR = rf"{COMPOUND}(?: (?:> )?{COMPOUND}){{0,3}}"
VALUE = r"[^;{}\n ](?:[^;{}\n]*[^;{}\n ])?"
ROW = re.compile(rf"({SELECTOR}(?:, {SELECTOR}){{0,5}}) \{{ ([^{{}}]*) \}}")
STRONG = re.compile(f"({WORD}): ({VALUE}) !")
OTHER = re.compile(f"({WORD}): ({VALUE})")


def numbers(least, most):
    return {str(number) for number in range(least, most + 1)}


PARTS = {f"{n}/{m}" for m in range(1, 13) for n in range(1, m + 1)}
VALUES = {
    "align": {"left", "center", "right"}, "back": {"clear", "black", "red", "green", "blue"}, "border": {"0", "1"},
    "color": {"black", "red", "green", "blue"}, "display": {"block", "inline", "none"}, "down": numbers(-50, 50),
    "hide": {"yes", "no"}, "layer": numbers(-9, 9), "margin": numbers(0, 20), "pad": numbers(0, 20),
    "right": numbers(-50, 50), "width": {"auto"} | numbers(0, 200) | PARTS,
}
PLAIN = ["left", "clear", "0", "black", "inline", "0", "no", "0", "0", "0", "0", "auto"]
DISPLAYS = {"page": "block", "p": "block", "list": "block", "item": "block", "row": "block", "script": "none"}


def declaration(signs):
    """False where it is not so written."""
    found = STRONG.fullmatch(signs)
    if found:
        name, value, strong = found[1], found[2], True
    else:
        found = OTHER.fullmatch(signs)
        if not found or found[2].endswith(" !"):
            return False
        name, value, strong = found[1], found[2], False
    return (name, value, strong) if value in VALUES.get(name, set()) | {"inherit"} and name in VALUES else None


def declarations(signs):
    """None where they are not so written."""
    told = [declaration(part) for part in signs.split("; ")]
    return None if False in told or len(told) > 12 else told


def plain_rules(looks):
    rules = []
    for row in looks.split("\n"):
        found = ROW.fullmatch(row)
        told = declarations(found[2]) if found else None
        rules.append(None if told is None else (found[1].split(", "), told))
    return rules


def passes(compound, tag):
    name = re.match(WORD, compound)
    if name and name[0] != tag["name"]:
        return False
    for test in re.findall(TEST, compound):
        worth, equals, value = test[1:].strip("]").partition("=")
        if test == ":first":
            holds = tag["first"]
        elif test[0] == "#":
            holds = tag["worths"].get("id") == worth
        elif test[0] == ".":
            holds = worth in tag["worths"].get("class", "").split(" ")
        elif equals:
            holds = tag["worths"].get(worth) == value
        else:
            holds = worth in tag["worths"]
        if not holds:
            return False
    return True


def leads(steps, path):
    """Whether compounds, each but the first with its parting ahead, match the last tag of a path and ones around."""
    if not passes(steps[-1], path[-1]):
        return False
    if len(steps) == 1:
        return True
    rest = steps[:-2]
    if steps[-2] == ">":
        return len(path) > 1 and leads(rest, path[:-1])
    return any(leads(rest, path[:many]) for many in range(1, len(path)))


def plain_matches(selector, path):
    steps = selector.replace(" > ", "\n>\n").replace(" ", "\n\n").split("\n")
    return leads(steps, path)


def plain_weight(selector):
    tests = re.findall(TEST, selector)
    ids = [test for test in tests if test[0] == "#"]
    words = [step for step in re.split(" ", selector) if re.match("[a-z]", step)]
    return (len(ids), len(tests) - len(ids), len(words))


def plain_paths(tree):
    """Of each node the path of the tags to it, itself the last one, and its parent's number."""
    told = []

    def go(node, path, parent, first):
        if node[0] == "text":
            told.append((path, parent, True))
            return
        path = [*path, {"name": node[1], "worths": dict(node[2]), "first": first}]
        number = len(told)
        told.append((path, parent, False))
        begun = False
        for child in node[3]:
            go(child, path, number, not begun)
            begun = begun or child[0] == "tag"

    go(tree, [], None, True)
    return told


def plain_styles(tree, looks):
    """Of each node its style and its leads."""
    rules = plain_rules(looks)
    told = []
    for path, parent, is_text in plain_paths(tree):
        if is_text:
            told.append((told[parent][0], [("parent", parent)] * 12))
            continue
        above = told[parent][0] if parent is not None else PLAIN[:4] + ["block"] + PLAIN[5:]
        style, style_leads = [], []
        for at, name in enumerate(sorted(VALUES)):
            value, lead = chosen(name, path, rules)
            if value == "inherit":
                value = above[at]
            elif value is None and name in ("align", "color", "hide") and parent is not None:
                value, lead = above[at], ("parent", parent)
            elif value is None:
                value = DISPLAYS.get(path[-1]["name"], "inline") if name == "display" else PLAIN[at]
            style.append(value)
            style_leads.append(lead)
        told.append((tuple(style), style_leads))
    return told


def chosen(name, path, rules):
    """The value of the greatest declaration and its lead."""
    found = []
    for d, kept in enumerate(declarations(path[-1]["worths"].get("look", "")) or []):
        if kept and kept[0] == name:
            found.append((kept[2], 1, (0, 0, 0), 0, d, kept[1], ("own", d)))
    for k, rule in enumerate(rules):
        weights = [plain_weight(selector) for selector in (rule or [[]])[0] if plain_matches(selector, path)]
        for d, kept in enumerate(rule[1] if weights else []):
            if kept and kept[0] == name:
                found.append((kept[2], 0, max(weights), k, d, kept[1], ("row", k, d)))
    return sorted(found)[-1][5:] if found else (None, ("plain",))
