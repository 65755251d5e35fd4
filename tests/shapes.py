"""Short ways to write the trees and texts that tests take, and to go through a tree."""

import random

PIECES = ["<a>", "</a>", "<b>", "</b>", "<page>", "</page>", "<script>", "</script>", '<a x="1" x="2">',
          '<b y="&lt;&quot;>\n">', "<a", ' x="', '"', "</", ">", "<", "&lt;", "&amp;", "&", "lt;", "x", " ", "\n"]


def text(signs):
    return ("text", signs)


def tag(name, *children, worths=()):
    return ("tag", name, worths, children)


def page(*children):
    return tag("page", *children)


def nodes_in(tree):
    nodes = [tree]
    for child in tree[3] if tree[0] == "tag" else ():
        nodes.extend(nodes_in(child))
    return nodes


def chance_texts(many, pieces):
    """The same texts at each run, each of so many pieces at most."""
    chance = random.Random(7)
    return ["".join(chance.choices(PIECES, k=chance.randint(0, pieces))) for _ in range(many)]
