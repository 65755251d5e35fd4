"""Runs of scripts: rows that are done one behind the other, on a page as it stands at each."""

from freshpage.errors import NoNode, NotFormed, NotTag, TooLarge
from freshpage.figures import number_of
from freshpage.scripts import MOST_FIGURES, fault_of, rows_of
from freshpage.styles import PROPERTIES, value_of
from freshpage.trees import MOST_SIGNS

MOST_LOOPS = 20
MOST_NUMBER = 99999999999999999999
ROOM_WORDS = ("left", "top", "wide", "high")


class Fault(Exception):
    """A row asks what is not there, or what can't be done."""


class Script:
    """A script's rows, the one that is at fault by itself, and where its rows lead."""

    def __init__(self, code):
        self.rows = rows_of(code)
        self.fault = fault_of(self.rows)
        self.jumps = jumps_of(self.rows) if self.fault is None else {}


class Run:
    """A run of a script for an event: `this` and the event's target, what was let, and the turns of its loops."""

    def __init__(self, happening, event, this, script):
        self.happening = happening
        self.page = happening.page
        self.event = event
        self.this = this
        self.fault = script.fault
        self.rows = script.rows
        self.jumps = script.jumps
        self.names = {}
        self.turns = {}

    def go(self):
        """Does the rows; the number of the one at which the run ends at a fault, or None."""
        if self.fault is not None:
            return self.fault
        at = 0
        while at < len(self.rows):
            row = self.rows[at]
            if row is None:
                at += 1
            elif row[0] == "else":
                at = self.jumps[at] + 1
            elif row[0] == "end":
                at = self.behind_turn(at)
            else:
                self.happening.begin_row()
                try:
                    at = self.behind_row(at, row[0], row[1:])
                except (Fault, NoNode, NotTag, NotFormed, TooLarge):
                    return at
        return None

    def behind_turn(self, at):
        """The number of the row that comes behind an end: of a loop its first one, as long as turns are left."""
        begin = self.jumps[at]
        if begin in self.turns:
            self.turns[begin] -= 1
            if self.turns[begin] > 0:
                return begin + 1
        return at + 1

    def behind_row(self, at, word, parts):
        """Does a row that is no else and no end; the number of the one that comes behind it."""
        if word == "if":
            value = self.term(parts)
            return self.jumps[at] + 1 if value in (0, "") else at + 1
        if word == "loop":
            many = self.term(parts)
            if isinstance(many, str) or many < 0 or many > MOST_LOOPS:
                raise Fault("this is no number of loops")
            self.turns[at] = many
            return self.jumps[at] + 1 if many == 0 else at + 1
        if word in ("let", "say", "stop", "prevent", "send"):
            self.do_own_row(word, parts)
        else:
            self.do_page_row(word, self.node_of(parts[0]), parts[1:])
        return at + 1

    def do_own_row(self, word, parts):
        """Does a row that leaves the page as it is."""
        if word == "let":
            self.names[parts[0]] = self.term(parts[1:])
        elif word == "say":
            self.happening.outcome.append(("say", str(self.term(parts))))
        elif word == "stop":
            self.event.is_stopped = True
        elif word == "prevent":
            self.event.is_prevented = True
        else:
            self.happening.send(parts[0], self.node_of(parts[1]))

    def do_page_row(self, word, node, parts):
        """Does a row that is a deed at a tag."""
        if word == "mark":
            self.page.put_worth(node, parts[0], str(self.term(parts[1:])))
        elif word == "unmark":
            self.page.drop_worth(node, parts[0])
        elif word == "text":
            self.page.set_text(node, str(self.term(parts)))
        elif word == "add":
            self.page.put_last(node, str(self.term(parts)))
        else:
            self.page.cut(node)

    def node_of(self, who):
        """The number of the tag that is so named."""
        if who == "this":
            node = self.this.number
        elif who == "target":
            node = self.event.target.number
        else:
            node = self.page.first_tag("id", who[1:])
        if node is None:
            raise Fault("no tag is so named")
        return node

    def term(self, parts):
        """The value of a term of one part, or of two with a sign between."""
        value = self.part(parts[0])
        if len(parts) > 1:
            value = joined(value, parts[1], self.part(parts[2]))
        if is_beyond(value):
            raise Fault("the value is too large")
        return value

    def part(self, part):
        """The value of one part."""
        if part.startswith('"'):
            return part[1:-1]
        if part == "sign":
            return self.event.sign
        number = number_of(part, MOST_FIGURES)
        if number is not None:
            return number
        words = part.split(" ")
        if len(words) > 1:
            return self.asked(words[0], self.node_of(words[1]), words[2:])
        if part not in self.names:
            raise Fault("the name was not let")
        return self.names[part]

    def asked(self, word, node, rest):
        """The value of a part that asks for what a tag has."""
        if word == "worth":
            return self.page.places[node].worths.get(rest[0], "")
        if word == "look":
            if rest[0] not in PROPERTIES:
                raise Fault("no property has this name")
            return value_of(self.page.style(node), rest[0])
        room = self.page.room(node)
        return 0 if room is None else room[ROOM_WORDS.index(word)]


def joined(one, sign, other):
    """The value of two with a sign between."""
    if sign == "&":
        return str(one) + str(other)
    if sign == "=":
        return 1 if one == other else 0
    if isinstance(one, str) or isinstance(other, str):
        raise Fault("a text is no number")
    if sign == "<":
        return 1 if one < other else 0
    return one + other if sign == "+" else one - other


def is_beyond(value):
    """Whether a value is a text or a number beyond what there may be."""
    return len(value) > MOST_SIGNS if isinstance(value, str) else abs(value) > MOST_NUMBER


def jumps_of(rows):
    """Of an if the number of its else, or its end; of an else and a loop of its end; of an end of what it ends."""
    jumps = {}
    opened = []
    for number, row in enumerate(rows):
        word = None if row is None else row[0]
        if word in ("else", "end"):
            begin = opened.pop()
            jumps[begin] = number
            jumps[number] = begin
        if word in ("if", "else", "loop"):
            opened.append(number)
    return jumps
