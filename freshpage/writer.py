"""Writes a tree as the text that is read to it, and tells whether a tree is whole."""

from freshpage.words import SCRIPT_END, written_sign


def written(tree):
    """The text of a whole tree."""
    pieces = []
    coming = list(tree[3][::-1])
    # Not by a function that calls itself: a tree may be deep.
    while coming:
        part = coming.pop()
        if isinstance(part, str):
            pieces.append(part)
        elif part[0] == "text":
            pieces.append(written_sign(part[1]))
        else:
            pieces.append(begin_of(part))
            coming.append(end_of(part))
            coming.extend([signs for _, signs in part[3]] if part[1] == "script" else part[3][::-1])
    return "".join(pieces)


def signs_beside(node, around):
    """How many signs a node is written with, those of its children apart, in a tag of a name, None around the page."""
    if around is None:
        return 0
    if node[0] == "text":
        return len(node[1]) if around == "script" else len(written_sign(node[1]))
    return len(begin_of(node)) + len(end_of(node))


def begin_of(tag):
    """The begin of a tag, with its worths."""
    worths = "".join([written_worth(key, value) for key, value in tag[2]])
    return f"<{tag[1]}{worths}>"


def end_of(tag):
    """The end of a tag."""
    return f"</{tag[1]}>"


def written_worth(name, value):
    """A worth with its blank ahead, as it stands in a tag."""
    signs = written_sign(value).replace('"', "&quot;")
    return f' {name}="{signs}"'


def is_whole(tree):
    """Whether a node is the page of a tree that a text may be read to."""
    if tree[:3] != ("tag", "page", ()):
        return False
    coming = [tree]
    while coming:
        node = coming.pop()
        if not is_whole_node(node):
            return False
        if node[0] == "tag":
            coming.extend(node[3])
    return True


def is_whole_node(node):
    """Whether a node, what its children have within them apart, may stand in a whole tree."""
    if node[0] == "text":
        return node[1] != ""
    _, name, worths, children = node
    if len({key for key, _ in worths}) < len(worths) or has_neighbour_texts(children):
        return False
    return name != "script" or are_of_script(children)


def has_neighbour_texts(children):
    """Whether two texts stand beside one another."""
    kinds = [child[0] for child in children]
    return ("text", "text") in list(zip(kinds, kinds[1:]))


def are_of_script(children):
    """Whether these are no nodes, or one text that does not end a script."""
    if len(children) == 0:
        return True
    return len(children) == 1 and children[0][0] == "text" and SCRIPT_END not in children[0][1]
