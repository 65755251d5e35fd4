"""Looks made ready to be asked what they declare for a tag.

Each compound of a selector is one bit of whole numbers, those of one selector beside one another, the last one's the
highest: so one sign tells all compounds that a tag fits, and the selectors stand in the order in which they outdo
one another.
"""

from freshpage.kept import kept_answer, kept_with
from freshpage.looks import own_declarations, rule_of
from freshpage.selectors import compounds_of, passes, weight_of

MOST_KNOWN = 500
SHEETS = None


class Sheet:
    """The rows of looks: by names and tests the bits of the compounds that ask for them, and what each row declares."""

    def __init__(self, looks):
        self.text = looks
        self.many = 0
        self.begins = 0
        self.of_parent = 0
        self.of_around = 0
        self.any_name = 0
        self.names = {}
        self.tests = {}
        self.row_of = {}
        self.given = {}
        self.ends = {}
        # What is known of declarations, as they are written: the tags' own looks mostly have the same ones.
        self.known = {}
        self.read_rows(looks.split("\n"))

    def read_rows(self, rows):
        """Puts in the selectors of all rows, one that outdoes another behind it."""
        compounds = {}
        found = []
        for k, row in enumerate(rows):
            rule = rule_of(row, compounds, self.known)
            if rule is not None:
                selectors, declarations = rule
                self.given[k] = last_of(declarations)
                for selector in selectors:
                    parts = compounds_of(selector, compounds)
                    found.append((weight_of(parts), k, parts))
        for _, k, parts in sorted(found, key=lambda one: (one[0], one[1])):
            self.put_selector(k, parts)

    def put_selector(self, k, compounds):
        """Puts in a selector of a row: the bits of its compounds, and of which declarations the last one decides."""
        self.begins |= 1 << self.many
        for at, (is_child, name, tests) in enumerate(compounds):
            bit = 1 << self.many
            self.many += 1
            if at > 0 and is_child:
                self.of_parent |= bit
            elif at > 0:
                self.of_around |= bit
            if name == "":
                self.any_name |= bit
            else:
                self.names[name] = self.names.get(name, 0) | bit
            for test in tests:
                self.tests[test] = self.tests.get(test, 0) | bit
        end = self.many - 1
        self.row_of[end] = k
        for key in self.given[k]:
            self.ends[key] = self.ends.get(key, 0) | 1 << end

    def fit_of(self, place):
        """The bits of the compounds that the tag at a place fits by itself."""
        fit = self.any_name | self.names.get(place.name, 0)
        for test, bits in self.tests.items():
            if fit & bits != 0 and not passes(place, test):
                fit ^= fit & bits
        return fit

    def told(self, met, name, strong):
        """(value, lead) of the greatest declaration, strong or not, of a property among the bits met, or None."""
        ends = met & self.ends.get((name, strong), 0)
        if ends == 0:
            return None
        k = self.row_of[ends.bit_length() - 1]
        value, d = self.given[k][(name, strong)]
        return value, ("row", k, d)

    def own_told(self, place):
        """By the properties and whether it is strong (value, lead) of the last declaration of a tag's own look."""
        text = place.worths.get("look", "")
        if text == "":
            return {}
        if len(self.known) > MOST_KNOWN:
            self.known = {}
        own = last_of(own_declarations(text, self.known))
        return {key: (value, ("own", d)) for key, (value, d) in own.items()}


def last_of(declarations):
    """By the properties and whether it is strong (value, d) of the last one of the declarations."""
    last = {}
    for d, declaration in enumerate(declarations):
        if declaration is not None:
            name, value, strong = declaration
            last[(name, strong)] = (value, d)
    return last


def sheet_of(looks):
    """The looks made ready, which are only read, as others are told the same ones."""
    global SHEETS
    rows = SHEETS or ()
    sheet = kept_answer(rows, looks)
    if sheet is None:
        sheet = Sheet(looks)
        SHEETS = kept_with(rows, looks, sheet)
    return sheet
