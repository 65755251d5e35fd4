"""The nodes of a tree by their numbers, and deeds: each tells a new tree, whole, or is refused."""

from freshpage.errors import NoNode, NotFormed, NotTag, TooLarge
from freshpage.places import behind_of, places_from, places_of
from freshpage.reader import read
from freshpage.words import SCRIPT_END, is_word
from freshpage.writer import signs_beside

MOST_NODES = 120
MOST_DEEP = 20
MOST_SIGNS = 4000


def nodes_of(tree):
    """The nodes of a tree, by their numbers."""
    nodes = []
    coming = [tree]
    # Not by a function that calls itself: a tree may be deep.
    while coming:
        node = coming.pop()
        nodes.append(node)
        if node[0] == "tag":
            coming.extend(node[3][::-1])
    return nodes


def parents_of(tree):
    """The number of each node's parent, by the nodes' numbers, None for the page."""
    parents = []
    coming = [tree]
    around = [None]
    while coming:
        node = coming.pop()
        number = len(parents)
        parents.append(around.pop())
        if node[0] == "tag":
            coming.extend(node[3][::-1])
            around.extend([number] * len(node[3]))
    return parents


def put_worth(tree, node, name, value):
    """The tree with a worth put at a tag: in its place, or behind the others."""
    places = places_of(tree)
    return tree_with(places, node, with_worth(places, node, name, value))


def drop_worth(tree, node, name):
    """The tree with a worth dropped at a tag, if it is there."""
    places = places_of(tree)
    return tree_with(places, node, without_worth(places, node, name))


def put(tree, node, at, text):
    """The tree with what a text is read to put in at a tag, ahead of its child of a number or behind all."""
    places = places_of(tree)
    return tree_with(places, node, with_put(places, node, at, text))


def cut(tree, node):
    """The tree without a node and what is within it."""
    places = places_of(tree)
    tag = without(places, node)
    return tree_with(places, places[node].parent.number, tag)


def set_text(tree, node, text):
    """The tree with a text in the place of all children of a tag."""
    places = places_of(tree)
    return tree_with(places, node, with_text(places, node, text))


def with_worth(places, node, name, value):
    """The tag of a number with a worth put."""
    tag = tag_of_worth(places, node, name)
    worths = dict(tag[2])
    worths[name] = value
    return ("tag", tag[1], tuple(worths.items()), tag[3])


def without_worth(places, node, name):
    """The tag of a number with a worth dropped."""
    tag = tag_of_worth(places, node, name)
    worths = tuple([worth for worth in tag[2] if worth[0] != name])
    return ("tag", tag[1], worths, tag[3])


def with_put(places, node, at, text):
    """The tag of a number with what a text is read to put in ahead of its child of a number or behind all."""
    tag = tag_at(places, node)
    if tag[1] == "script":
        raise NotTag("nothing is put in at a script")
    children = tag[3]
    if at < 0 or at > len(children):
        raise NoNode("no child has this number")
    return with_children(tag, children[:at] + read(text)[3] + children[at:])


def without(places, node):
    """The parent of the node of a number with this one cut."""
    place = place_at(places, node)
    if node == 0:
        raise NotTag("the page is not cut")
    tag = place.parent.node
    return with_children(tag, tag[3][:place.at] + tag[3][place.at + 1:])


def with_text(places, node, text):
    """The tag of a number with a text in the place of all its children."""
    tag = tag_at(places, node)
    if tag[1] == "script" and SCRIPT_END in text:
        raise NotFormed("the text would end the script")
    return with_children(tag, (("text", text),))


def place_at(places, number):
    """The place of the node of a number."""
    if number < 0 or number >= len(places):
        raise NoNode("no node has this number")
    return places[number]


def tag_at(places, number):
    """The node of a number, where it is a tag."""
    place = place_at(places, number)
    if place.name is None:
        raise NotTag("a text is no tag")
    return place.node


def tag_of_worth(places, number, name):
    """The tag of a number, where a worth of that name may be put or dropped."""
    tag = tag_at(places, number)
    if number == 0:
        raise NotTag("the page has no worths")
    if not is_word(name):
        raise NotFormed("the worth's name is no word")
    return tag


def with_children(tag, children):
    """The tag with other children, neighbouring texts as one, those without signs gone."""
    kept = []
    for child in children:
        if child[0] == "text" and kept and kept[-1][0] == "text":
            kept[-1] = ("text", kept[-1][1] + child[1])
        elif child != ("text", ""):
            kept.append(child)
    return ("tag", tag[1], tag[2], tuple(kept))


def with_child(tag, at, child):
    """The tag with another tag in the place of a child that is one."""
    return ("tag", tag[1], tag[2], tag[3][:at] + (child,) + tag[3][at + 1:])


def tree_with(places, node, tag):
    """The tree with another tag in the place of the one of a number, where it is not too large."""
    places_behind(places, node, tag)
    place = places[node]
    while place.parent is not None:
        tag = with_child(place.parent.node, place.at, tag)
        place = place.parent
    return tag


def places_behind(places, node, tag):
    """The places of another tag in the place of one, and of all within it, where the page is not too large by it."""
    old = places[node]
    within = places_from(old.parent, tag, old.at, old.first)
    behind = places[:node] + within + places[behind_of(places, node):]
    check_sizes(behind)
    if sum([size_of(place) for place in behind]) > MOST_SIGNS:
        raise TooLarge(MOST_SIGNS)
    return within


def check_sizes(places):
    """Refuses too many nodes, and such as stand too deep."""
    if len(places) > MOST_NODES:
        raise TooLarge(MOST_NODES)
    if max([place.deep for place in places]) > MOST_DEEP:
        raise TooLarge(MOST_DEEP)


def size_of(place):
    """How many signs a node is written with, those of its children apart."""
    if place.size is None:
        place.size = signs_beside(place.node, None if place.parent is None else place.parent.name)
    return place.size
