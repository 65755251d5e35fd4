"""Selectors of looks: how they are read, which tags they match, and their weight."""

from freshpage.figures import FIGURES
from freshpage.places import kept_places
from freshpage.words import WORD_SIGNS, run_at, word_at

MOST_COMPOUNDS = 4
MOST_VALUE_SIGNS = 12
FIRST = ":first"


def matches(selector, tree, node):
    """Whether a selector so written matches the node of a number."""
    places = kept_places(tree)
    if node < 0 or node >= len(places):
        return False
    compounds = compounds_of(selector, {})
    return is_led_to(compounds, len(compounds) - 1, places[node])


def weight(selector):
    """The weight of a selector so written."""
    return weight_of(compounds_of(selector, {}))


def weight_of(compounds):
    """The weight of a selector of these compounds."""
    signs = [sign for _, _, tests in compounds for sign, _, _ in tests]
    names = [name for _, name, _ in compounds if name != ""]
    return (signs.count("#"), len(signs) - signs.count("#"), len(names))


def is_led_to(compounds, at, place):
    """Whether the compound of a number matches the tag at a place, and those ahead of it tags around."""
    is_child, name, tests = compounds[at]
    if not is_fit(place, name, tests):
        return False
    if at == 0:
        return True
    around = place.parent
    while around is not None:
        if is_led_to(compounds, at - 1, around):
            return True
        around = None if is_child else around.parent
    return False


def is_fit(place, name, tests):
    """Whether the node at a place is a tag of that name, if one is asked for, that passes the tests."""
    if place.name is None or name not in ("", place.name):
        return False
    for test in tests:
        if not passes(place, test):
            return False
    return True


def passes(place, test):
    """Whether the tag at a place passes a test."""
    sign, name, value = test
    if sign == FIRST:
        return place.first
    if sign == "[":
        return name in place.worths
    worth = place.worths.get(name, "")
    return value in worth.split(" ") if sign == "." else value == worth


def compounds_of(selector, known):
    """The compounds, a list of (whether a child is asked for, name, tests); None where it is not so written.

    What is known of compounds, as they are written, is kept for the selectors to come.
    """
    compounds = []
    for part in selector.split(" > "):
        for at, signs in enumerate(part.split(" ")):
            if signs not in known:
                known[signs] = compound_of(signs)
            if known[signs] is None or len(compounds) == MOST_COMPOUNDS:
                return None
            compounds.append((at == 0, *known[signs]))
    return compounds


def compound_of(signs):
    """The name that a compound asks for and its tests, (sign, worth's name, value) each; None: it is not so written."""
    name = word_at(signs, 0)
    tests = []
    at = 1 if signs.startswith("*") else len(name)
    while at < len(signs):
        found = test_at(signs, at)
        if found is None:
            return None
        test, at = found
        tests.append(test)
    return None if signs == "" else (name, tests)


def test_at(signs, at):
    """The test that stands at a place of a compound, and the place behind it; None where none does."""
    if signs.startswith(FIRST, at):
        return (FIRST, "", ""), at + len(FIRST)
    word = word_at(signs, at + 1)
    behind = at + 1 + len(word)
    if word == "":
        return None
    if signs[at] == "#":
        return ("#", "id", word), behind
    if signs[at] == ".":
        return (".", "class", word), behind
    return worth_test_at(signs, word, behind) if signs[at] == "[" else None


def worth_test_at(signs, name, at):
    """The same of a test whose `[` and worth's name stand ahead of a place."""
    if signs.startswith("]", at):
        return ("[", name, ""), at + 1
    value = run_at(signs, at + 1, WORD_SIGNS + FIGURES)
    if value == "" or len(value) > MOST_VALUE_SIGNS or not signs.startswith(f"={value}]", at):
        return None
    return ("=", name, value), at + len(value) + 2
