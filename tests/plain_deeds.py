"""Does the deeds on trees in another way than the program, to compare the two: on lists that are changed."""

from freshpage import errors
from freshpage.reader import read
from freshpage.words import is_word
from freshpage.writer import written


class Refused(Exception):
    """Bears what a deed is refused with: the class's name, and the most of one that is too large."""


def opened(node, parent, found):
    """The node as a dict with its parent, put in its place into the list of all that were found."""
    kept = {"node": node, "parent": parent, "children": []}
    found.append(kept)
    for child in node[3] if node[0] == "tag" else ():
        kept["children"].append(opened(child, kept, found))
    return kept


def closed(kept):
    node = kept["node"]
    if node[0] == "text":
        return node
    children = []
    for child in map(closed, kept["children"]):
        if child[0] == "text" and children and children[-1][0] == "text":
            children[-1] = ("text", children[-1][1] + child[1])
        else:
            children.append(child)
    return ("tag", node[1], node[2], tuple(child for child in children if child != ("text", "")))


def deep_and_many(node):
    below = [deep_and_many(child) for child in (node[3] if node[0] == "tag" else ())]
    return 1 + max([deep for deep, _ in below], default=0), 1 + sum(many for _, many in below)


def bounded(tree):
    deep, many = deep_and_many(tree)
    for amount, most in ((many, 120), (deep, 20), (len(written(tree)), 4000)):
        if amount > most:
            raise Refused("TooLarge", most)
    return tree


def refuse(holds, name):
    if holds:
        raise Refused(name, None)


def done(deed, tree, node, *told):
    """The tree that the deed of that name makes of this one."""
    found = []
    top = opened(tree, None, found)
    refuse(node not in range(len(found)), "NoNode")
    kept = found[node]
    is_text = kept["node"][0] == "text"
    if deed == "cut":
        refuse(node == 0, "NotTag")
        kept["parent"]["children"] = [child for child in kept["parent"]["children"] if child is not kept]
        return bounded(closed(top))
    refuse(is_text, "NotTag")
    _, name, worths, children = kept["node"]
    if deed == "put":
        at, signs = told
        refuse(name == "script", "NotTag")
        refuse(at not in range(len(children) + 1), "NoNode")
        kept["children"][at:at] = [opened(child, kept, []) for child in read(signs)[3]]
    elif deed == "set_text":
        refuse(name == "script" and "</script>" in told[0], "NotFormed")
        kept["children"] = [{"node": ("text", told[0])}]
    else:
        refuse(node == 0, "NotTag")
        refuse(not is_word(told[0]), "NotFormed")
        names = [key for key, _ in worths]
        if deed == "drop_worth":
            worths = [worth for worth in worths if worth[0] != told[0]]
        elif told[0] in names:
            worths = [tuple(told) if key == told[0] else (key, value) for key, value in worths]
        else:
            worths = [*worths, tuple(told)]
        kept["node"] = ("tag", name, tuple(worths), ())
    return bounded(closed(top))


def outcome(deed, *told):
    """What a deed of the program tells, or the refusal, as `plain_outcome` tells it."""
    try:
        return deed(*told)
    except errors.TooLarge as error:
        return ("TooLarge", error.most)
    except (errors.NoNode, errors.NotTag, errors.NotFormed) as error:
        return (type(error).__name__, None)


def plain_outcome(deed, *told):
    try:
        return done(deed, *told)
    except Refused as refused:
        return refused.args
