"""Where the nodes of a tree stand, as looks ask for it."""

from freshpage.trees import nodes_of, parents_of


class Place:
    """A node's parent's number; of a tag its name and worths, and whether it is the first tag of its parent."""

    def __init__(self, parent, name, worths, first):
        self.parent = parent
        self.name = name
        self.worths = worths
        self.first = first


def places_of(tree):
    """The places of all nodes, by their numbers; a text has None as its name."""
    places = {}
    begun = set()
    for node, parent in zip(nodes_of(tree), parents_of(tree)):
        if node[0] == "text":
            place = Place(parent, None, {}, False)
        else:
            # A parent's tags come in their order: the first one finds it not begun.
            place = Place(parent, node[1], dict(node[2]), parent not in begun)
            begun.add(parent)
        places[len(places)] = place
    return places


def path_of(places, number):
    """Of the places only a node's own and those of the tags around it, by their numbers, the page's first."""
    path = []
    while number is not None:
        path.append(number)
        number = places[number].parent
    return {step: places[step] for step in path[::-1]}
