"""Where the nodes of a tree stand, as looks and layout ask for it."""

from freshpage.kept import kept_answer, kept_with

PLACES = None


class Place:
    """Where a node stands: of a text its signs, of a tag its name and worths, and whether no tag beside is ahead."""

    def __init__(self, parent, node, at, first):
        self.number = 0
        self.parent = parent
        self.node = node
        # The how manieth child of its parent it is.
        self.at = at
        self.deep = 1 if parent is None else parent.deep + 1
        self.name = None
        self.signs = ""
        self.worths = {}
        self.first = first
        self.has_tag = False
        # What is worked out of it is set by those who do so.
        self.size = None
        self.own = None
        self.met = 0
        self.met_around = 0
        self.style = None
        self.block = None
        self.was_styled = False
        self.was_set_out = False
        if node[0] == "text":
            self.signs = node[1]
        else:
            self.name = node[1]
            self.worths = dict(node[2])


def places_of(tree):
    """The places of all nodes, by their numbers."""
    return numbered(places_from(None, tree, 0, True))


def places_from(parent, node, at, first):
    """The places of a node below that of a parent, and of all within it, in their order, still without numbers."""
    places = [Place(parent, node, at, first)]
    coming = coming_from(places[0])
    # Not by a function that calls itself: a tree may be deep.
    while coming:
        parent, at, node = coming.pop()
        is_tag = node[0] == "tag"
        place = Place(parent, node, at, is_tag and not parent.has_tag)
        places.append(place)
        if is_tag:
            parent.has_tag = True
            coming.extend(coming_from(place))
    return places


def coming_from(place):
    """The children of a node, the last one first: each (the node's place, the how manieth it is, the child)."""
    if place.name is None:
        return []
    children = [(place, at, child) for at, child in enumerate(place.node[3])]
    return children[::-1]


def behind_of(places, number):
    """The number behind those of a node and all within it."""
    deep = places[number].deep
    number += 1
    while number < len(places) and places[number].deep > deep:
        number += 1
    return number


def numbered(places):
    """The places, each with its number."""
    for number, place in enumerate(places):
        place.number = number
    return places


def kept_places(tree):
    """The places of all nodes, which are only read, as others are told the same ones."""
    global PLACES
    rows = PLACES or ()
    places = kept_answer(rows, tree)
    if places is None:
        places = tuple(places_of(tree))
        PLACES = kept_with(rows, tree, places)
    return places
