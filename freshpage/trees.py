"""The nodes of a tree by their numbers, and deeds: each tells a new tree, whole, or is refused."""

from freshpage.errors import NoNode, NotFormed, NotTag, TooLarge
from freshpage.reader import read
from freshpage.words import SCRIPT_END, is_word
from freshpage.writer import written

MOST_NODES = 120
MOST_DEEP = 20
MOST_SIGNS = 4000


def nodes_of(tree):
    """The nodes of a tree, by their numbers."""
    nodes = []
    coming = [tree]
    # Not by a function that calls itself: a tree may be deep.
    while coming:
        node = coming.pop()
        nodes.append(node)
        if node[0] == "tag":
            coming.extend(node[3][::-1])
    return nodes


def parents_of(tree):
    """The number of each node's parent, by the nodes' numbers, None for the page."""
    parents = []
    coming = [tree]
    around = [None]
    while coming:
        node = coming.pop()
        number = len(parents)
        parents.append(around.pop())
        if node[0] == "tag":
            coming.extend(node[3][::-1])
            around.extend([number] * len(node[3]))
    return parents


def children_of(node):
    """The children of a node: none of a text."""
    return node[3] if node[0] == "tag" else ()


def put_worth(tree, node, name, value):
    """The tree with a worth put at a tag: in its place, or behind the others."""
    nodes = nodes_of(tree)
    tag = tag_of_worth(nodes, node, name)
    worths = dict(tag[2])
    worths[name] = value
    return bounded(replaced(nodes, node, [with_worths(tag, tuple(worths.items()))]))


def drop_worth(tree, node, name):
    """The tree with a worth dropped at a tag, if it is there."""
    nodes = nodes_of(tree)
    tag = tag_of_worth(nodes, node, name)
    worths = tuple([worth for worth in tag[2] if worth[0] != name])
    return bounded(replaced(nodes, node, [with_worths(tag, worths)]))


def put(tree, node, at, text):
    """The tree with what a text is read to put in at a tag, ahead of its child of a number or behind all."""
    nodes = nodes_of(tree)
    tag = tag_at(nodes, node)
    if tag[1] == "script":
        raise NotTag("nothing is put in at a script")
    children = tag[3]
    if at < 0 or at > len(children):
        raise NoNode("no child has this number")
    children = children[:at] + read(text)[3] + children[at:]
    return bounded(replaced(nodes, node, [with_children(tag, children)]))


def cut(tree, node):
    """The tree without a node and what is within it."""
    nodes = nodes_of(tree)
    node_at(nodes, node)
    if node == 0:
        raise NotTag("the page is not cut")
    return bounded(replaced(nodes, node, []))


def set_text(tree, node, text):
    """The tree with a text in the place of all children of a tag."""
    nodes = nodes_of(tree)
    tag = tag_at(nodes, node)
    if tag[1] == "script" and SCRIPT_END in text:
        raise NotFormed("the text would end the script")
    return bounded(replaced(nodes, node, [with_children(tag, (("text", text),))]))


def node_at(nodes, number):
    """The node of a number."""
    if number < 0 or number >= len(nodes):
        raise NoNode("no node has this number")
    return nodes[number]


def tag_at(nodes, number):
    """The node of a number, where it is a tag."""
    node = node_at(nodes, number)
    if node[0] != "tag":
        raise NotTag("a text is no tag")
    return node


def tag_of_worth(nodes, number, name):
    """The tag of a number, where a worth of that name may be put or dropped."""
    tag = tag_at(nodes, number)
    if number == 0:
        raise NotTag("the page has no worths")
    if not is_word(name):
        raise NotFormed("the worth's name is no word")
    return tag


def with_worths(tag, worths):
    """The tag with other worths."""
    return ("tag", tag[1], worths, tag[3])


def with_children(tag, children):
    """The tag with other children, neighbouring texts as one, those without signs gone."""
    kept = []
    for child in children:
        if child[0] == "text" and kept and kept[-1][0] == "text":
            kept[-1] = ("text", kept[-1][1] + child[1])
        elif child != ("text", ""):
            kept.append(child)
    return ("tag", tag[1], tag[2], tuple(kept))


def replaced(nodes, number, others):
    """The tree of these nodes with others (of the page: one) where the one of a number stood."""
    parents = parents_of(nodes[0])
    while parents[number] is not None:
        parent = parents[number]
        # As many children stand ahead of it as nodes with smaller numbers have its parent.
        at = parents[:number].count(parent)
        children = nodes[parent][3]
        children = children[:at] + tuple(others) + children[at + 1:]
        others = [with_children(nodes[parent], children)]
        number = parent
    return others[0]


def bounded(tree):
    """The tree, where it is not too large."""
    check_sizes(tree)
    if len(written(tree)) > MOST_SIGNS:
        raise TooLarge(MOST_SIGNS)
    return tree


def check_sizes(tree):
    """Refuses a tree of too many nodes, or one that is too deep."""
    deeps = []
    for parent in parents_of(tree):
        deeps.append(1 if parent is None else deeps[parent] + 1)
    if len(deeps) > MOST_NODES:
        raise TooLarge(MOST_NODES)
    if max(deeps) > MOST_DEEP:
        raise TooLarge(MOST_DEEP)
