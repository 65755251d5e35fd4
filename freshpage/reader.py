"""Reads a text to a tree, and tells where in the text each node stands."""

from freshpage.words import SCRIPT_END, plain_signs, word_at


class Found:
    """A node as it is found in a text: a tag, or a text, which has no name but signs."""

    def __init__(self, parent, first, name, worths):
        self.parent = parent
        self.first = first
        self.behind = first
        self.name = name
        self.worths = worths
        self.signs = ""


class Reading:
    """What was found so far: the nodes by their numbers, and those of the open tags, the page's first."""

    def __init__(self):
        self.nodes = [Found(None, 0, "page", ())]
        self.path = [0]

    def begin_tag(self, first, name, worths):
        """A tag begins in the innermost open one."""
        tag = Found(self.path[-1], first, name, worths)
        self.path.append(len(self.nodes))
        self.nodes.append(tag)

    def add_signs(self, first, behind, signs):
        """Signs of text come in the innermost open tag, to the text that is its last child, if it is one."""
        last = self.nodes[-1]
        if last.name is not None or last.parent != self.path[-1]:
            last = Found(self.path[-1], first, None, ())
            self.nodes.append(last)
        last.behind = behind
        last.signs += signs

    def end_tag(self, name, first, behind):
        """The innermost open tag of a name ends behind its end, all open within it ahead of that."""
        depth = self.depth_of(name)
        if depth > 0:
            self.end_from(depth + 1, first)
            self.end_from(depth, behind)

    def depth_of(self, name):
        """Where among the open tags the innermost one of a name is; 0, the page, where none is."""
        for depth in range(len(self.path) - 1, 0, -1):
            node = self.nodes[self.path[depth]]
            if node.name == name:
                return depth
        return 0

    def end_from(self, depth, behind):
        """The open tags from a depth on end at a place."""
        for number in self.path[depth:]:
            node = self.nodes[number]
            node.behind = behind
        del self.path[depth:]


def read(text):
    """The tree of a text."""
    nodes = found_nodes(text)
    children = [[] for _ in nodes]
    for number in range(len(nodes) - 1, 0, -1):
        node = nodes[number]
        children[node.parent].append(tree_node(node, children[number]))
    return tree_node(nodes[0], children[0])


def stretches(text):
    """The stretch (first, behind) in a text of each node that is read of it, by the nodes' numbers."""
    return [(node.first, node.behind) for node in found_nodes(text)]


def tree_node(node, children):
    """The node as a tree has it, its children handed in from the last to the first."""
    if node.name is None:
        return ("text", node.signs)
    return ("tag", node.name, node.worths, tuple(children[::-1]))


def found_nodes(text):
    """The nodes that are found in a text, by their numbers."""
    reading = Reading()
    at = 0
    while at < len(text):
        at = read_part(reading, text, at)
    reading.end_from(0, len(text))
    return reading.nodes


def read_part(reading, text, at):
    """Reads what stands at a place: a tag's begin, an end, or signs; the place behind it."""
    begin = begin_at(text, at)
    if begin is not None:
        name, worths, behind = begin
        reading.begin_tag(at, name, worths)
        return read_script(reading, text, behind) if name == "script" else behind
    name = end_at(text, at)
    if name != "":
        behind = at + len(f"</{name}>")
        reading.end_tag(name, at, behind)
        return behind
    # What is no tag ends ahead of a `<`, so that no written sign is cut.
    behind = place_of(text, "<", at + 1)
    reading.add_signs(at, behind, plain_signs(text[at:behind]))
    return behind


def read_script(reading, text, at):
    """Reads the signs of a script from behind its begin; the place behind them."""
    behind = place_of(text, SCRIPT_END, at)
    if behind > at:
        reading.add_signs(at, behind, text[at:behind])
    return behind


def place_of(text, signs, at):
    """Where the signs stand first from a place on, or the text's end."""
    place = text.find(signs, at)
    return len(text) if place < 0 else place


def begin_at(text, at):
    """The tag that begins at a place: (name, worths, the place behind), or None."""
    name = word_at(text, at + 1)
    if name == "" or text[at] != "<":
        return None
    behind = at + 1 + len(name)
    worths = {}
    worth = worth_at(text, behind)
    while worth is not None:
        key, value, behind = worth
        worths.setdefault(key, value)
        worth = worth_at(text, behind)
    if not text.startswith(">", behind):
        return None
    return name, tuple(worths.items()), behind + 1


def worth_at(text, at):
    """The worth that stands, with its blank ahead, at a place: (name, value, the place behind), or None."""
    name = word_at(text, at + 1)
    ahead = f' {name}="'
    if name == "" or not text.startswith(ahead, at):
        return None
    first = at + len(ahead)
    last = text.find('"', first)
    if last < 0:
        return None
    return name, plain_signs(text[first:last]), last + 1


def end_at(text, at):
    """The name of the end that stands at a place, or no signs."""
    name = word_at(text, at + 2)
    return name if text.startswith(f"</{name}>", at) else ""
