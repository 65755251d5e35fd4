"""Reads looks: rows of selectors and declarations, and a tag's own look."""

from freshpage.properties import has_value
from freshpage.selectors import compounds_of
from freshpage.words import is_word

MOST_SELECTORS = 6
MOST_DECLARATIONS = 12
STRONG = " !"
BARRED = (";", "{", "}", "\n")


def rules_of(looks):
    """The rows of looks, each (selectors, declarations), or None where it is passed over."""
    return [rule_of(row) for row in looks.split("\n")]


def own_rules(text):
    """The declarations of a worth look, none where it is not so written."""
    declarations = declarations_of(text)
    return [] if declarations is None else declarations


def rule_of(row):
    """The selectors and the declarations of a row, or None where it is not so written."""
    ahead, _, behind = row.partition(" { ")
    if not behind.endswith(" }"):
        return None
    selectors = selectors_of(ahead)
    declarations = declarations_of(behind.removesuffix(" }"))
    return None if selectors is None or declarations is None else (selectors, declarations)


def selectors_of(text):
    """The selectors as they are written, or None where they are not so written."""
    selectors = text.split(", ")
    if len(selectors) > MOST_SELECTORS or None in [compounds_of(selector) for selector in selectors]:
        return None
    return selectors


def declarations_of(text):
    """The declarations, each (property, value, strong) or None where it is passed over; None: not so written."""
    declarations = [declaration_of(signs) for signs in text.split("; ")]
    if len(declarations) > MOST_DECLARATIONS or None in declarations:
        return None
    return [known(declaration) for declaration in declarations]


def declaration_of(signs):
    """(property, value, strong) of any property and any value, or None where it is not so written."""
    name, _, value = signs.partition(": ")
    # The blank of `: ` is none of the value's, so `color: !` does not end so.
    strong = value.endswith(STRONG)
    value = value.removesuffix(STRONG)
    return (name, value, strong) if is_word(name) and is_value(value) else None


def is_value(text):
    """Whether a text may stand as a value."""
    return text != "" and text.strip(" ") == text and not any([sign in text for sign in BARRED])


def known(declaration):
    """The declaration, or None where there is no such property or it has no such value."""
    name, value, _ = declaration
    return declaration if has_value(name, value) else None
