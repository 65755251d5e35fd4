"""Reads looks: rows of selectors and declarations, and a tag's own look."""

from freshpage.properties import has_value
from freshpage.selectors import compounds_of
from freshpage.words import is_word

MOST_SELECTORS = 6
MOST_DECLARATIONS = 12
STRONG = " !"
BARRED = (";", "{", "}", "\n")


def rules_of(looks):
    """The rows of looks, each (selectors, declarations), or None where it is passed over."""
    compounds = {}
    declarations = {}
    return [rule_of(row, compounds, declarations) for row in looks.split("\n")]


def own_rules(text):
    """The declarations of a worth look, none where it is not so written."""
    return own_declarations(text, {})


def own_declarations(text, known):
    """The same, with what is known of declarations, as they are written."""
    declarations = declarations_of(text, known)
    return [] if declarations is None else declarations


def rule_of(row, compounds, declarations):
    """The selectors and the declarations of a row, or None where it is not so written.

    What is known of compounds and declarations, as they are written, is kept for the rows to come.
    """
    ahead, _, behind = row.partition(" { ")
    if not behind.endswith(" }"):
        return None
    selectors = selectors_of(ahead, compounds)
    if selectors is None:
        return None
    told = declarations_of(behind.removesuffix(" }"), declarations)
    return None if told is None else (selectors, told)


def selectors_of(text, known):
    """The selectors as they are written, or None where they are not so written."""
    selectors = text.split(", ")
    if len(selectors) > MOST_SELECTORS:
        return None
    for selector in selectors:
        if compounds_of(selector, known) is None:
            return None
    return selectors


def declarations_of(text, known):
    """The declarations, each (property, value, strong) or None where it is passed over; None: not so written."""
    declarations = text.split("; ")
    if len(declarations) > MOST_DECLARATIONS:
        return None
    told = []
    for signs in declarations:
        if signs not in known:
            known[signs] = declaration_of(signs)
        is_written, declaration = known[signs]
        if not is_written:
            return None
        told.append(declaration)
    return told


def declaration_of(signs):
    """Whether a declaration is so written, and (property, value, strong), or None where it is passed over."""
    name, _, value = signs.partition(": ")
    # The blank of `: ` is none of the value's, so `color: !` does not end so.
    strong = value.endswith(STRONG)
    value = value.removesuffix(STRONG)
    if not is_word(name) or not is_value(value):
        return False, None
    return True, ((name, value, strong) if has_value(name, value) else None)


def is_value(text):
    """Whether a text may stand as a value."""
    if text == "" or text.strip(" ") != text:
        return False
    for sign in BARRED:
        if sign in text:
            return False
    return True
