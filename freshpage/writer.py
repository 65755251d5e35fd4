"""Writes a tree as the text that is read to it, and tells whether a tree is whole."""

from freshpage.words import SCRIPT_END, written_sign


def written(tree):
    """The text of a whole tree."""
    pieces = []
    coming = list(tree[3][::-1])
    # Not by a function that calls itself: a tree may be deep.
    while coming:
        part = coming.pop()
        if isinstance(part, str):
            pieces.append(part)
        elif part[0] == "text":
            pieces.append(written_sign(part[1]))
        else:
            _, name, worths, children = part
            ahead = "".join([written_worth(key, value) for key, value in worths])
            pieces.append(f"<{name}{ahead}>")
            coming.append(f"</{name}>")
            coming.extend([signs for _, signs in children] if name == "script" else children[::-1])
    return "".join(pieces)


def written_worth(name, value):
    """A worth with its blank ahead, as it stands in a tag."""
    signs = written_sign(value).replace('"', "&quot;")
    return f' {name}="{signs}"'


def is_whole(tree):
    """Whether a node is the page of a tree that a text may be read to."""
    if tree[:3] != ("tag", "page", ()):
        return False
    coming = [tree]
    while coming:
        node = coming.pop()
        if not is_whole_node(node):
            return False
        if node[0] == "tag":
            coming.extend(node[3])
    return True


def is_whole_node(node):
    """Whether a node, what its children have within them apart, may stand in a whole tree."""
    if node[0] == "text":
        return node[1] != ""
    _, name, worths, children = node
    if len({key for key, _ in worths}) < len(worths) or has_neighbour_texts(children):
        return False
    return name != "script" or are_of_script(children)


def has_neighbour_texts(children):
    """Whether two texts stand beside one another."""
    kinds = [child[0] for child in children]
    return ("text", "text") in list(zip(kinds, kinds[1:]))


def are_of_script(children):
    """Whether these are no nodes, or one text that does not end a script."""
    if len(children) == 0:
        return True
    return len(children) == 1 and children[0][0] == "text" and SCRIPT_END not in children[0][1]
