"""Reads scripts and runs events in another way than the program, to compare the two: by patterns, on tags that are
changed in place, with everything asked anew of the pages that the program's other files tell."""

import re

from freshpage.rooms import rooms
from freshpage.styles import PROPERTIES, styles
from freshpage.writer import written
from plain_deeds import Refused, bounded, closed, opened, refuse
from freshpage.reader import read

WORD = "[a-z][a-z-]{0,11}"
NAME = f"(?!(?:sign|wide|high|left|top|worth|look)(?![a-z-])){WORD}"
WHO = f"(?:this|target|#{WORD})"
NUMBER = "(?:0|-?[1-9][0-9]{0,8})"
PART = f'(?:(?:wide|high|left|top) {WHO}|(?:worth|look) {WHO} {WORD}|sign|{NUMBER}|"[^"]*"|{NAME})'
TERM = f"({PART})(?: ([-+<=&]) ({PART}))?"
SHAPES = [f"(let) ({NAME}) {TERM}", f"(mark) ({WHO}) ({WORD}) {TERM}", f"(unmark) ({WHO}) ({WORD})",
          f"(text) ({WHO}) {TERM}", f"(add) ({WHO}) {TERM}", f"(cut) ({WHO})", f"(say) {TERM}", f"(if) {TERM}",
          "(else)", "(end)", f"(loop) {TERM}", "(stop)", "(prevent)", f"(send) ({WORD}) ({WHO})"]
SHAPES = [re.compile(shape) for shape in SHAPES]


def plain_row(row):
    row = row.strip(" ")
    if row == "":
        return None
    for shape in SHAPES:
        found = shape.fullmatch(row)
        if found:
            return tuple(part for part in found.groups() if part is not None)
    return ("fault",)


def plain_rows(code):
    return [plain_row(row) for row in code.split("\n")]


def plain_fits(code):
    faults, opened_at = [], []
    for k, row in enumerate(plain_rows(code)):
        word = row[0] if row else None
        if word == "fault":
            faults.append(k)
        elif word in ("if", "loop"):
            if len(opened_at) > 11:
                faults.append(k)
            opened_at.append([k, word])
        elif word == "else":
            if opened_at and opened_at[-1][1] == "if":
                opened_at[-1][1] = "if with else"
            else:
                faults.append(k)
        elif word == "end":
            if opened_at:
                opened_at.pop()
            else:
                faults.append(k)
    return min(faults + [k for k, _ in opened_at], default=None)


class Fault(Exception):
    pass


class Far(Exception):
    pass


class Plain:
    """A page as dicts that know their parents, told to trees whenever something is asked."""

    def __init__(self, tree, looks, width):
        self.top = opened(tree, None, [])
        self.looks, self.width = looks, width
        self.outcome, self.queue = [], []
        self.begun = self.rows = 0

    def tree(self):
        return closed(self.top)

    def all(self):
        """All nodes there are now, in their order; each knows its name and worths by its node."""
        found, coming = [], [self.top]
        while coming:
            kept = coming.pop(0)
            found.append(kept)
            coming = kept["children"] + coming
        return found

    def number(self, kept):
        for k, other in enumerate(self.all()):
            if other is kept:
                return k
        return None

    def worths(self, kept):
        return dict(kept["node"][2])

    def change(self, kept, change):
        """Does a change, which is taken back where it is refused."""
        before = [(one, one["node"], list(one["children"])) for one in self.all()]
        try:
            change()
            bounded(self.tree())
        except Refused as error:
            for one, node, children in before:
                one["node"], one["children"] = node, children
            raise Fault from error
        self.merge()

    def merge(self):
        for kept in self.all():
            children = []
            for child in kept["children"]:
                if child["node"][0] == "text" and children and children[-1]["node"][0] == "text":
                    children[-1]["node"] = ("text", children[-1]["node"][1] + child["node"][1])
                elif child["node"] != ("text", ""):
                    children.append(child)
            kept["children"] = children

    def put_worth(self, kept, name, value):
        def change():
            refuse(kept is self.top, "NotTag")
            worths = self.worths(kept)
            worths[name] = value
            kept["node"] = ("tag", kept["node"][1], tuple(worths.items()), ())
        self.change(kept, change)

    def drop_worth(self, kept, name):
        def change():
            refuse(kept is self.top, "NotTag")
            worths = [(key, value) for key, value in kept["node"][2] if key != name]
            kept["node"] = ("tag", kept["node"][1], tuple(worths), ())
        self.change(kept, change)

    def set_text(self, kept, text):
        def change():
            refuse(kept["node"][1] == "script" and "</script>" in text, "NotFormed")
            kept["children"] = [{"node": ("text", text), "parent": kept, "children": []}]
        self.change(kept, change)

    def add(self, kept, text):
        def change():
            refuse(kept["node"][1] == "script", "NotTag")
            kept["children"] = kept["children"] + [opened(child, kept, []) for child in read(text)[3]]
        self.change(kept, change)

    def cut(self, kept):
        def change():
            refuse(kept is self.top, "NotTag")
            parent = kept["parent"]
            parent["children"] = [child for child in parent["children"] if child is not kept]
        self.change(kept, change)

    def way(self, kept):
        return (self.way(kept["parent"]) if kept["parent"] else []) + [kept]

    def event(self, kind, target, sign):
        if self.begun == 8:
            raise Far
        if self.begun:
            self.outcome.append(("event", kind, self.number(target)))
        self.begun += 1
        said = {"stop": False, "prevent": False}
        way = self.way(target)
        for side, tag in [("cap", tag) for tag in way] + [("on", tag) for tag in reversed(way)]:
            key = f"{side}-{kind}"
            if self.number(tag) is None or said["stop"] or key not in self.worths(tag):
                continue
            name = self.worths(tag)[key]
            scripts = [one for one in self.all() if one["node"][0] == "tag" and one["node"][1] == "script"]
            scripts = [one for one in scripts if self.worths(one).get("name") == name]
            if scripts:
                self.outcome.append(("run", name, side, self.number(tag)))
                code = scripts[0]["children"][0]["node"][1] if scripts[0]["children"] else ""
                self.run(name, code, tag, target, sign, said)
        if not said["prevent"] and self.number(target) is not None:
            self.own(kind, target, sign)

    def own(self, kind, target, sign):
        wanted = {"click": "check", "key": "field", "back": "field"}.get(kind)
        near = [tag for tag in reversed(self.way(target)) if tag["node"][1] == wanted]
        if not near:
            return
        tag = near[0]
        texts = [one for one in self.all() if one["node"][0] == "text"]
        signs = "".join(one["node"][1] for one in texts if any(around is tag for around in self.way(one)))
        try:
            if kind == "click" and "on" in self.worths(tag):
                self.drop_worth(tag, "on")
            elif kind == "click":
                self.put_worth(tag, "on", "yes")
            else:
                self.set_text(tag, signs + sign if kind == "key" else signs[:-1])
        except Fault:
            return
        self.outcome.append(("own", kind, self.number(tag)))

    def run(self, name, code, this, target, sign, said):
        fault = plain_fits(code)
        if fault is not None:
            self.outcome.append(("fault", name, fault))
            return
        run = PlainRun(self, this, target, sign, said)
        try:
            run.block(nest(plain_rows(code)))
        except Fault:
            self.outcome.append(("fault", name, run.at))


def nest(rows):
    """Rows as a tree of blocks: (number, row, block, else block)."""
    top = ([], None)
    opened_at = [[None, None, [], None]]
    for k, row in enumerate(rows):
        word = row[0] if row else None
        if word in ("if", "loop"):
            opened_at.append([k, row, [], None])
        elif word == "else":
            opened_at[-1][3] = []
        elif word == "end":
            done = opened_at.pop()
            put_row(opened_at[-1], done)
        elif word:
            put_row(opened_at[-1], [k, row, [], None])
    return opened_at[0][2]


def put_row(block, row):
    (block[2] if block[3] is None else block[3]).append(row)


class PlainRun:
    def __init__(self, plain, this, target, sign, said):
        self.plain, self.this, self.target, self.sign, self.said = plain, this, target, sign, said
        self.names, self.at = {}, None

    def block(self, rows):
        for k, row, inner, other in rows:
            if self.plain.rows == 400:
                raise Far
            self.plain.rows += 1
            self.at = k
            if row[0] == "if":
                self.block(inner if self.term(row[1:]) not in (0, "") else other or [])
            elif row[0] == "loop":
                many = self.term(row[1:])
                if many not in range(21) or isinstance(many, str):
                    raise Fault
                for _ in range(many):
                    self.block(inner)
            else:
                getattr(self, row[0] + "_row")(*row[1:])

    def let_row(self, name, *term):
        self.names[name] = self.term(term)

    def say_row(self, *term):
        self.plain.outcome.append(("say", str(self.term(term))))

    def stop_row(self):
        self.said["stop"] = True

    def prevent_row(self):
        self.said["prevent"] = True

    def send_row(self, kind, who):
        self.plain.queue.append((kind, self.who(who)))

    def mark_row(self, who, name, *term):
        self.plain.put_worth(self.who(who), name, str(self.term(term)))

    def unmark_row(self, who, name):
        self.plain.drop_worth(self.who(who), name)

    def text_row(self, who, *term):
        self.plain.set_text(self.who(who), str(self.term(term)))

    def add_row(self, who, *term):
        self.plain.add(self.who(who), str(self.term(term)))

    def cut_row(self, who):
        self.plain.cut(self.who(who))

    def who(self, who):
        if who[0] == "#":
            tags = [one for one in self.plain.all() if one["node"][0] == "tag"]
            found = [one for one in tags if self.plain.worths(one).get("id") == who[1:]]
        else:
            found = [self.this if who == "this" else self.target]
        if not found or self.plain.number(found[0]) is None:
            raise Fault
        return found[0]

    def term(self, term):
        values = [self.part(part) for part in term[::2]]
        if len(values) == 2:
            a, b = values
            if term[1] in "+-<" and (isinstance(a, str) or isinstance(b, str)):
                raise Fault
            values = [{"+": lambda: a + b, "-": lambda: a - b, "<": lambda: int(a < b), "=": lambda: int(a == b),
                       "&": lambda: f"{a}{b}"}[term[1]]()]
        value = values[0]
        if (len(value) > 4000) if isinstance(value, str) else len(str(abs(value))) > 20:
            raise Fault
        return value

    def part(self, part):
        if part[0] == '"':
            return part[1:-1]
        if re.fullmatch(NUMBER, part):
            return int(part)
        if part == "sign":
            return self.sign
        words = part.split(" ")
        if len(words) == 1:
            if part not in self.names:
                raise Fault
            return self.names[part]
        kept = self.who(words[1])
        tree, number = self.plain.tree(), self.plain.number(kept)
        if words[0] == "worth":
            return self.plain.worths(kept).get(words[2], "")
        if words[0] == "look":
            if words[2] not in PROPERTIES:
                raise Fault
            return styles(tree, self.plain.looks)[number][PROPERTIES.index(words[2])]
        room = rooms(tree, self.plain.looks, width=self.plain.width)[number] or (0, 0, 0, 0)
        return dict(zip(("left", "top", "wide", "high"), room))[words[0]]


def plain_fired(tree, looks, kind, node, sign, width):
    """The tree that an event leaves, and its outcome."""
    plain = Plain(tree, looks, width)
    plain.queue = [(kind, plain.all()[node], sign)]
    try:
        while plain.queue:
            kind, target, *signs = plain.queue.pop(0)
            if plain.number(target) is not None:
                plain.event(kind, target, signs[0] if signs else "")
    except Far:
        plain.outcome.append(("far",))
    assert read(written(plain.tree())) == plain.tree()
    return plain.tree(), plain.outcome
