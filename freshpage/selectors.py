"""Selectors of looks: how they are read, which tags they match, and their weight."""

from freshpage.figures import FIGURES
from freshpage.places import path_of, places_of
from freshpage.words import WORD_SIGNS, run_at, word_at

MOST_COMPOUNDS = 4
MOST_VALUE_SIGNS = 12
FIRST = ":first"


def matches(selector, tree, node):
    """Whether a selector so written matches the node of a number."""
    places = path_of(places_of(tree), node)
    return node in matched(compounds_of(selector), places)


def weight(selector):
    """The weight of a selector so written."""
    compounds = compounds_of(selector)
    signs = [sign for _, _, tests in compounds for sign, _, _ in tests]
    names = [name for _, name, _ in compounds if name != ""]
    return (signs.count("#"), len(signs) - signs.count("#"), len(names))


def matched(compounds, places):
    """The numbers, as the keys of a dict, of the places whose tags these compounds match."""
    found = places
    for at, (is_child, name, tests) in enumerate(compounds):
        led = places if at == 0 else led_by(found, is_child, places)
        found = {number: True for number in led if is_fit(places[number], name, tests)}
    return found


def led_by(found, is_child, places):
    """The numbers, as keys, of the nodes whose parent was found, or, if no child is asked for, a tag around it."""
    led = {}
    for number, place in places.items():
        if place.parent in found or (not is_child and place.parent in led):
            led[number] = True
    return led


def is_fit(place, name, tests):
    """Whether the node at a place is a tag of that name, if one is asked for, that passes the tests."""
    if place.name is None or name not in ("", place.name):
        return False
    return all([passes(place, test) for test in tests])


def passes(place, test):
    """Whether the tag at a place passes a test."""
    sign, name, value = test
    if sign == FIRST:
        return place.first
    if sign == "[":
        return name in place.worths
    worth = place.worths.get(name, "")
    return value in worth.split(" ") if sign == "." else value == worth


def compounds_of(selector):
    """The compounds, a list of (whether a child is asked for, name, tests); None where it is not so written."""
    compounds = []
    for part in selector.split(" > "):
        for at, signs in enumerate(part.split(" ")):
            tests = tests_of(signs)
            if tests is None or len(compounds) == MOST_COMPOUNDS:
                return None
            compounds.append((at == 0, word_at(signs, 0), tests))
    return compounds


def tests_of(signs):
    """The tests of a compound, a list of (sign, worth's name, value); None where it is not so written."""
    tests = []
    at = 1 if signs.startswith("*") else len(word_at(signs, 0))
    while at < len(signs):
        found = test_at(signs, at)
        if found is None:
            return None
        test, at = found
        tests.append(test)
    return None if signs == "" else tests


def test_at(signs, at):
    """The test that stands at a place of a compound, and the place behind it; None where none does."""
    if signs.startswith(FIRST, at):
        return (FIRST, "", ""), at + len(FIRST)
    word = word_at(signs, at + 1)
    behind = at + 1 + len(word)
    if word == "":
        return None
    if signs[at] == "#":
        return ("#", "id", word), behind
    if signs[at] == ".":
        return (".", "class", word), behind
    return worth_test_at(signs, word, behind) if signs[at] == "[" else None


def worth_test_at(signs, name, at):
    """The same of a test whose `[` and worth's name stand ahead of a place."""
    if signs.startswith("]", at):
        return ("[", name, ""), at + 1
    value = run_at(signs, at + 1, WORD_SIGNS + FIGURES)
    if value == "" or len(value) > MOST_VALUE_SIGNS or not signs.startswith(f"={value}]", at):
        return None
    return ("=", name, value), at + len(value) + 2
