"""Which nodes are laid as blocks and which in lines, and how blocks are set out."""

from freshpage.lines import filled
from freshpage.styles import value_of


class Block:
    """A tag laid as a block: its sizes, and where its lines and the blocks in it lie, seen from its own corner."""

    def __init__(self, style, available):
        self.available = available
        self.margin = int(value_of(style, "margin"))
        self.inset = int(value_of(style, "border")) + int(value_of(style, "pad"))
        self.align = value_of(style, "align")
        self.content = content_of(value_of(style, "width"), available, self.margin + self.inset)
        self.wide = self.content + 2 * self.inset
        self.high = 0
        # The corner, seen from that of the block around; the page's is seen from the board's.
        self.x = self.margin
        self.y = self.margin
        # Its flows, lists of (place of a text, signs), and blocks, as long as they are not set out.
        self.parts = []
        # What its lines have: (place of the text, x, y, signs).
        self.runs = []

    def put_text(self, place):
        """Puts a text behind all parts, into their last flow if no block is behind that."""
        if not self.parts or isinstance(self.parts[-1], Block):
            self.parts.append([])
        self.parts[-1].append((place, place.signs))

    def set_out(self):
        """Sets out its flows and its blocks, which are set out themselves."""
        y = self.inset
        ahead = 0
        for part in self.parts:
            if isinstance(part, Block):
                part.x = self.inset + part.margin
                part.y = y + max(part.margin, ahead)
                y = part.y + part.high
                ahead = part.margin
            else:
                lines = filled(part, self.content)
                if lines:
                    self.put_lines(lines, y + ahead)
                    y += ahead + len(lines)
                    ahead = 0
        self.high = y + ahead + self.inset
        self.parts = None

    def put_lines(self, lines, y):
        """Puts lines from a row on."""
        for down, line in enumerate(lines):
            free = max(1, self.content) - sum([len(signs) for _, signs in line])
            x = self.inset + begin_of(self.align, free)
            for place, signs in line:
                self.runs.append((place, x, y + down, signs))
                x += len(signs)


def content_of(value, available, frame):
    """How wide the content of a block is, between frames on both sides."""
    if value == "auto":
        return max(0, available - 2 * frame)
    if "/" in value:
        many, _, parts = value.partition("/")
        return available * int(many) // int(parts)
    return int(value)


def begin_of(align, free):
    """Where a line begins that leaves so many places free."""
    if align == "left":
        return 0
    return free if align == "right" else free // 2


def kinds_in(places):
    """How each node is laid, by numbers: "block", "lines" or None."""
    kinds = []
    for place in places:
        kinds.append("block" if place.parent is None else kind_of(place, kinds[place.parent.number]))
    # Children come behind their parents, so from the last one on each block is told to all around it.
    for place in reversed(places):
        if kinds[place.number] == "block" and place.parent is not None:
            kinds[place.parent.number] = "block"
    return kinds


def kind_of(place, around):
    """How a node is laid whose parent is laid so, as far as its children do not make it a block."""
    if around is None or place.name == "script":
        return None
    display = "inline" if place.name is None else value_of(place.style, "display")
    if display == "none":
        return None
    return "block" if display == "block" else "lines"


def set_out_blocks(places, kinds, width):
    """Sets out anew each block that is not yet set out in the width that it has available."""
    around = []
    begun = []
    for place in places:
        block = None if place.parent is None else around[place.parent.number]
        if kinds[place.number] == "block":
            own = block_of(place, width if block is None else block.content)
            if own.parts is not None:
                begun.append(own)
            if block is not None and block.parts is not None:
                block.parts.append(own)
            around.append(own)
        else:
            if kinds[place.number] == "lines" and place.name is None and block.parts is not None:
                block.put_text(place)
            around.append(block)
    for block in reversed(begun):
        block.set_out()


def block_of(place, available):
    """The block of a tag: the one that it has, if that is set out in this width, or one to be set out."""
    if place.block is None or place.block.available != available:
        place.block = Block(place.style, available)
        place.was_set_out = True
    return place.block
