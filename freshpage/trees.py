"""The nodes of a tree by their numbers, and deeds: each tells a new tree, whole, or is refused."""

from freshpage.errors import NoNode, NotFormed, NotTag, TooLarge
from freshpage.reader import read
from freshpage.words import SCRIPT_END, is_word
from freshpage.writer import written

MOST_NODES = 120
MOST_DEEP = 20
MOST_SIGNS = 4000


def nodes_of(tree):
    """The nodes of a tree, by their numbers."""
    nodes = []
    coming = [tree]
    # Not by a function that calls itself: a tree may be deep.
    while coming:
        node = coming.pop()
        nodes.append(node)
        coming.extend(children_of(node)[::-1])
    return nodes


def parents_of(tree):
    """The number of each node's parent, by the nodes' numbers, None for the page."""
    parents = []
    coming = [(None, tree)]
    while coming:
        parent, node = coming.pop()
        number = len(parents)
        parents.append(parent)
        coming.extend([(number, child) for child in children_of(node)[::-1]])
    return parents


def children_of(node):
    """The children of a node: none of a text."""
    return node[3] if node[0] == "tag" else ()


def put_worth(tree, node, name, value):
    """The tree with a worth put at a tag: in its place, or behind the others."""
    tag = tag_of_worth(tree, node, name)
    worths = dict(tag[2])
    worths[name] = value
    return bounded(replaced(tree, node, [with_worths(tag, tuple(worths.items()))]))


def drop_worth(tree, node, name):
    """The tree with a worth dropped at a tag, if it is there."""
    tag = tag_of_worth(tree, node, name)
    worths = tuple([worth for worth in tag[2] if worth[0] != name])
    return bounded(replaced(tree, node, [with_worths(tag, worths)]))


def put(tree, node, at, text):
    """The tree with what a text is read to put in at a tag, ahead of its child of a number or behind all."""
    tag = tag_at(tree, node)
    if tag[1] == "script":
        raise NotTag("nothing is put in at a script")
    children = tag[3]
    if at < 0 or at > len(children):
        raise NoNode("no child has this number")
    children = children[:at] + read(text)[3] + children[at:]
    return bounded(replaced(tree, node, [with_children(tag, children)]))


def cut(tree, node):
    """The tree without a node and what is within it."""
    node_at(tree, node)
    if node == 0:
        raise NotTag("the page is not cut")
    return bounded(replaced(tree, node, []))


def set_text(tree, node, text):
    """The tree with a text in the place of all children of a tag."""
    tag = tag_at(tree, node)
    if tag[1] == "script" and SCRIPT_END in text:
        raise NotFormed("the text would end the script")
    return bounded(replaced(tree, node, [with_children(tag, (("text", text),))]))


def node_at(tree, number):
    """The node of a number."""
    nodes = nodes_of(tree)
    if number < 0 or number >= len(nodes):
        raise NoNode("no node has this number")
    return nodes[number]


def tag_at(tree, number):
    """The node of a number, where it is a tag."""
    node = node_at(tree, number)
    if node[0] != "tag":
        raise NotTag("a text is no tag")
    return node


def tag_of_worth(tree, number, name):
    """The tag of a number, where a worth of that name may be put or dropped."""
    tag = tag_at(tree, number)
    if number == 0:
        raise NotTag("the page has no worths")
    if not is_word(name):
        raise NotFormed("the worth's name is no word")
    return tag


def with_worths(tag, worths):
    """The tag with other worths."""
    return ("tag", tag[1], worths, tag[3])


def with_children(tag, children):
    """The tag with other children, neighbouring texts as one, those without signs gone."""
    kept = []
    for child in children:
        if child[0] == "text" and kept and kept[-1][0] == "text":
            kept[-1] = ("text", kept[-1][1] + child[1])
        elif child != ("text", ""):
            kept.append(child)
    return ("tag", tag[1], tag[2], tuple(kept))


def replaced(tree, number, others):
    """The tree with other nodes (of the page: one) where the one of a number stood."""
    nodes = nodes_of(tree)
    parents = parents_of(tree)
    while parents[number] is not None:
        parent = parents[number]
        # As many children stand ahead of it as nodes with smaller numbers have its parent.
        at = parents[:number].count(parent)
        children = nodes[parent][3]
        children = children[:at] + tuple(others) + children[at + 1:]
        others = [with_children(nodes[parent], children)]
        number = parent
    return others[0]


def bounded(tree):
    """The tree, where it is not too large."""
    if len(nodes_of(tree)) > MOST_NODES:
        raise TooLarge(MOST_NODES)
    if deep_of(tree) > MOST_DEEP:
        raise TooLarge(MOST_DEEP)
    if len(written(tree)) > MOST_SIGNS:
        raise TooLarge(MOST_SIGNS)
    return tree


def deep_of(tree):
    """How deep the deepest node stands, the page one deep."""
    deeps = []
    for parent in parents_of(tree):
        deeps.append(1 if parent is None else deeps[parent] + 1)
    return max(deeps)
