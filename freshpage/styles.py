"""The style of each node, and what gave it."""

from freshpage.errors import NoNode, NoProperty
from freshpage.kept import kept_answer, kept_with
from freshpage.places import places_of
from freshpage.properties import HANDED_DOWN, plain_value
from freshpage.sheets import sheet_of

PROPERTIES = (
    "align", "back", "border", "color", "display", "down", "hide", "layer", "margin", "pad", "right", "width",
)
STYLED = None


def styles(tree, looks):
    """The styles by the nodes' numbers: each the tuple of the values, in the order of the properties."""
    places = kept_for_styles(tree, looks)
    style_places(places, sheet_of(looks))
    return [place.style for place in places]


def style_lead(tree, looks, node, name):
    """What gave a node its value of a property."""
    places = kept_for_styles(tree, looks)
    if node < 0 or node >= len(places):
        raise NoNode("no node has this number")
    if name not in PROPERTIES:
        raise NoProperty("no property has this name")
    return lead_of(places[node], name, sheet_of(looks))


def value_of(style, name):
    """The value of a property in a style."""
    return style[PROPERTIES.index(name)]


def kept_for_styles(tree, looks):
    """The places of all nodes of a tree, with what was worked out of these looks so far."""
    global STYLED
    rows = STYLED or ()
    places = kept_answer(rows, (tree, looks))
    if places is None:
        places = tuple(places_of(tree))
        STYLED = kept_with(rows, (tree, looks), places)
    return places


def style_places(places, sheet):
    """Works out the style of each place that has none; those of a parent come ahead of its children's."""
    for place in places:
        if place.style is None:
            meet(place, sheet)
            place.style = style_of(place, sheet)
            place.was_styled = True


def meet(place, sheet):
    """Works out which compounds match a tag with those ahead of them around it, and its own look."""
    if place.own is not None or place.name is None:
        return
    reach = sheet.begins
    around = 0
    if place.parent is not None:
        meet(place.parent, sheet)
        around = place.parent.met_around
        reach |= (place.parent.met << 1) & sheet.of_parent | (around << 1) & sheet.of_around
    place.met = reach & sheet.fit_of(place)
    place.met_around = around | place.met
    place.own = sheet.own_told(place)


def style_of(place, sheet):
    """The tuple of the values of a node, behind that of its parent."""
    if place.name is None:
        return place.parent.style
    above = None if place.parent is None else place.parent.style
    style = []
    for at, name in enumerate(PROPERTIES):
        plain = plain_value(name, place.name)
        handed = plain if above is None else above[at]
        found = greatest_of(place, name, sheet)
        if found is None:
            style.append(handed if name in HANDED_DOWN else plain)
        else:
            style.append(handed if found[0] == "inherit" else found[0])
    return tuple(style)


def greatest_of(place, name, sheet):
    """(value, lead) of the greatest declaration of a property for a tag, or None."""
    for strong in (True, False):
        own = place.own.get((name, strong))
        row = sheet.told(place.met, name, strong)
        if own is not None or row is not None:
            return row if own is None else own
    return None


def lead_of(place, name, sheet):
    """What gave a node its value of a property."""
    if place.name is None:
        return ("parent", place.parent.number)
    meet(place, sheet)
    found = greatest_of(place, name, sheet)
    if found is not None:
        return found[1]
    if place.parent is not None and name in HANDED_DOWN:
        return ("parent", place.parent.number)
    return ("plain",)
