"""Where the nodes of a tree stand, as looks and layout ask for it."""

from freshpage.kept import kept_answer, kept_with

PLACES = None


class Place:
    """Where a node stands: of a text its signs, of a tag its name and worths, and whether no tag beside is ahead."""

    def __init__(self, parent, node, first):
        self.number = 0
        self.parent = parent
        self.deep = 1 if parent is None else parent.deep + 1
        self.name = None
        self.signs = ""
        self.worths = {}
        self.first = first
        self.has_tag = False
        # What is worked out of it is set by those who do so.
        self.own = None
        self.met = 0
        self.met_around = 0
        self.style = None
        self.block = None
        self.was_styled = False
        self.was_set_out = False
        if node[0] == "text":
            self.signs = node[1]
        else:
            self.name = node[1]
            self.worths = dict(node[2])


def places_of(tree):
    """The places of all nodes, by their numbers."""
    return numbered(places_from(None, tree, True))


def places_from(parent, node, first):
    """The places of a node below that of a parent, and of all within it, in their order, still without numbers."""
    places = [Place(parent, node, first)]
    coming = [(places[0], child) for child in children_behind_first(node)]
    # Not by a function that calls itself: a tree may be deep.
    while coming:
        parent, node = coming.pop()
        is_tag = node[0] == "tag"
        place = Place(parent, node, is_tag and not parent.has_tag)
        places.append(place)
        if is_tag:
            parent.has_tag = True
            coming.extend([(place, child) for child in node[3][::-1]])
    return places


def children_behind_first(node):
    """The children of a node, the last one first."""
    return node[3][::-1] if node[0] == "tag" else ()


def numbered(places):
    """The places, each with its number."""
    for number, place in enumerate(places):
        place.number = number
    return places


def kept_places(tree):
    """The places of all nodes, which are only read, as others are told the same ones."""
    global PLACES
    rows = PLACES or ()
    places = kept_answer(rows, tree)
    if places is None:
        places = places_of(tree)
        PLACES = kept_with(rows, tree, places)
    return places
