"""The style of each node, and what gave it."""

from freshpage.errors import NoNode, NoProperty
from freshpage.looks import own_rules, rules_of
from freshpage.places import path_of, places_of
from freshpage.properties import HANDED_DOWN, plain_value
from freshpage.selectors import compounds_of, matched, weight

PROPERTIES = (
    "align", "back", "border", "color", "display", "down", "hide", "layer", "margin", "pad", "right", "width",
)
NO_WEIGHT = (0, 0, 0)


def styles(tree, looks):
    """The styles by the nodes' numbers: each the tuple of the values, in the order of the properties."""
    worked = worked_out(places_of(tree), looks)
    return [tuple([style[name][0] for name in PROPERTIES]) for style in worked.values()]


def style_lead(tree, looks, node, name):
    """What gave a node its value of a property."""
    places = places_of(tree)
    if node not in places:
        raise NoNode("no node has this number")
    if name not in PROPERTIES:
        raise NoProperty("no property has this name")
    # A style hangs on the nodes around alone.
    worked = worked_out(path_of(places, node), looks)
    return worked[node][name][1]


def worked_out(places, looks):
    """By the numbers of the places, and by the properties: (value, lead)."""
    greatest = greatest_of(places, looks)
    worked = {}
    for number, place in places.items():
        above = worked.get(place.parent)
        if place.name is None:
            worked[number] = {name: (above[name][0], ("parent", place.parent)) for name in PROPERTIES}
        else:
            worked[number] = {name: given(name, place, greatest[number], above) for name in PROPERTIES}
    return worked


def given(name, place, greatest, above):
    """The (value, lead) of a property of a tag, above those of its parent, None of the page."""
    plain = plain_value(name, place.name)
    handed = plain if above is None else above[name][0]
    if name in greatest:
        _, value, lead = greatest[name]
        return (handed if value == "inherit" else value), lead
    if above is None or name not in HANDED_DOWN:
        return plain, ("plain",)
    return handed, ("parent", place.parent)


def greatest_of(places, looks):
    """By the numbers of the places, and by the properties that have one, the greatest declaration."""
    greatest = {number: {} for number in places}
    for k, rule in enumerate(rules_of(looks)):
        if rule is not None:
            selectors, declarations = rule
            for number, heavy in weights_of(selectors, places).items():
                offer(greatest[number], declarations, (False, heavy, k), ("row", k))
    for number, place in places.items():
        offer(greatest[number], own_rules(place.worths.get("look", "")), (True, NO_WEIGHT, 0), ("own",))
    return greatest


def weights_of(selectors, places):
    """By the numbers of the places that a row's selectors match, the weight of the heaviest that does."""
    weights = {}
    for selector in selectors:
        heavy = weight(selector)
        for number in matched(compounds_of(selector), places):
            weights[number] = max(heavy, weights.get(number, NO_WEIGHT))
    return weights


def offer(greatest, declarations, rank, lead):
    """Keeps of each property the greatest declaration: (rank, value, lead)."""
    for d, declaration in enumerate(declarations):
        if declaration is not None:
            name, value, strong = declaration
            place = (strong, *rank, d)
            if name not in greatest or greatest[name][0] < place:
                greatest[name] = (place, value, (*lead, d))
