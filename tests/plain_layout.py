"""Lays and paints pages in another way than the program, to compare the two: sign by sign and cell by cell."""

from plain_looks import VALUES, plain_styles

NAMES = sorted(VALUES)


class Box:
    """A node with all that is asked of it; found by going through the tree by a function that calls itself."""

    def __init__(self, node, number, parent, style):
        self.node, self.number, self.parent = node, number, parent
        self.style = dict(zip(NAMES, style))
        self.is_text = node[0] == "text"
        self.children = []
        self.kind = self.room = None
        self.cells = []

    def num(self, name):
        return int(self.style[name])

    def up(self):
        """It and the boxes around it."""
        return [self] + (self.parent.up() if self.parent else [])


def boxes_of(tree, looks):
    styles = [style for style, _ in plain_styles(tree, looks)]
    found = []

    def go(node, parent):
        box = Box(node, len(found), parent, styles[len(found)])
        found.append(box)
        if parent:
            parent.children.append(box)
        for child in node[3] if node[0] == "tag" else ():
            go(child, box)

    go(tree, None)
    give_kind(found[0], True)
    found[0].kind = "block"
    return found


def give_kind(box, is_page=False):
    if not is_page and (box.node[:2] == ("tag", "script") or (not box.is_text and box.style["display"] == "none")):
        return
    for child in box.children:
        give_kind(child)
    is_block = not box.is_text and box.style["display"] == "block"
    is_block = is_block or any(child.kind == "block" for child in box.children)
    box.kind = "block" if is_block else "lines"


def signs_of(box):
    if box.kind is None:
        return []
    if box.is_text:
        return [(sign, box.number) for sign in box.node[1]]
    return [pair for child in box.children for pair in signs_of(child)]


def plain_lines(signs, wide):
    """The lines of a list of (sign, node), the words put one sign behind the other."""
    wide = max(wide, 1)
    words, gap = [], None
    ahead = True
    for sign, node in signs:
        if sign in " \n":
            if not ahead:
                gap = node
            elif gap is None:
                gap = node
            ahead = True
        else:
            if ahead:
                words.append((gap, []))
                gap = None
            words[-1][1].append((sign, node))
            ahead = False
    lines = []
    for gap, word in words:
        if len(word) > wide:
            while len(word) > wide:
                lines.append(word[:wide])
                word = word[wide:]
            lines.append(word)
        elif lines and len(lines[-1]) + 1 + len(word) <= wide:
            lines[-1] = lines[-1] + [(" ", gap)] + word
        else:
            lines.append(word)
    return lines


def flows_of(block):
    """The flows and the blocks of a block: lists of signs, and boxes."""
    parts = []
    for child in block.children:
        if child.kind == "block":
            parts.append(child)
        elif child.kind == "lines":
            if not parts or isinstance(parts[-1], Box):
                parts.append([])
            parts[-1].extend(signs_of(child))
    return parts


def lay(block, x, y, available, boxes):
    """Lays a block whose box's corner stands at a place; told is how high it is."""
    frame = block.num("border") + block.num("pad")
    width = block.style["width"]
    if width == "auto":
        content = max(0, available - 2 * block.num("margin") - 2 * frame)
    elif "/" in width:
        n, m = width.split("/")
        content = available * int(n) // int(m)
    else:
        content = int(width)
    x, y = x + block.num("right"), y + block.num("down")
    row, behind, wide = y + frame, None, max(1, content)
    for part in flows_of(block):
        if isinstance(part, Box):
            margin = part.num("margin")
            row += margin if behind is None else max(margin, behind)
            row += lay(part, x + frame + margin, row, content, boxes)
            behind = margin
            continue
        lines = plain_lines(part, content)
        if lines:
            row += behind or 0
            behind = None
        for line in lines:
            free = wide - len(line)
            begin = {"left": 0, "right": free, "center": free // 2}[block.style["align"]]
            for at, (sign, node) in enumerate(line):
                boxes[node].cells.append((x + frame + begin + at, row, sign))
            row += 1
    row += (behind or 0) + frame
    block.room = (x, y, content + 2 * frame, row - y)
    return row - y


def laid(tree, looks, width):
    """The boxes of a page, with their rooms, and how high the board is."""
    boxes = boxes_of(tree, looks)
    margin = boxes[0].num("margin")
    high = lay(boxes[0], margin, margin, width, boxes)
    for box in boxes:
        if box.kind == "lines":
            cells = [cell for inner in boxes if box in inner.up() for cell in inner.cells]
            if cells:
                columns, rows = [cell[0] for cell in cells], [cell[1] for cell in cells]
                left, top = min(columns), min(rows)
                box.room = (left, top, max(columns) - left + 1, max(rows) - top + 1)
    return boxes, high + 2 * margin


def layers_of(boxes):
    """All boxes of blocks and rows of signs, hidden ones left out, in their order: (key, box, cells, unit or None)."""
    found = []
    for box in boxes:
        if box.kind is None or box.style["hide"] == "yes":
            continue
        level = sum(around.num("layer") for around in box.up() if not around.is_text)
        if box.kind == "block":
            x, y, wide, high = box.room
            cells = [(a, b, None) for b in range(y, y + high) for a in range(x, x + wide)]
            is_unit = box.style["back"] != "clear" or box.style["border"] == "1"
            found.append(((level, box.number, 0), box, cells, ("box", box.number, box.room) if is_unit else None))
            continue
        rows = {}
        for cell in box.cells:
            rows.setdefault(cell[1], []).append(cell)
        for row, cells in rows.items():
            text = "".join(cell[2] for cell in cells)
            unit = ("signs", box.number, (cells[0][0], row), text)
            found.append(((level, box.number, row), box, cells, unit))
    return sorted(found, key=lambda layer: layer[0])


def painted(tree, looks, width):
    """The board, who is hit at each cell, and which node painted it."""
    boxes, high = laid(tree, looks, width)
    board = {(x, y): (" ", "black", "clear") for y in range(high) for x in range(width)}
    hits, painters = dict.fromkeys(board), dict.fromkeys(board)
    for _, box, cells, unit in layers_of(boxes):
        for x, y, sign in cells:
            if (x, y) not in board:
                continue
            hits[x, y] = box.parent.number if box.is_text else box.number
            told = cell_of(box, x, y, sign, board[x, y])
            if unit and told:
                board[x, y] = told
                painters[x, y] = box.number
    rows = [[board[x, y] for x in range(width)] for y in range(high)]
    return rows, hits, painters


def cell_of(box, x, y, sign, below):
    """What a box, or a sign, paints at a cell, or None."""
    if box.is_text:
        backs = []
        for around in box.up()[1:]:
            if around.kind == "block":
                break
            if around.style["back"] != "clear":
                backs.append(around.style["back"])
        return (sign, box.parent.style["color"], backs[0] if backs else below[2])
    left, top, wide, high = box.room
    back = box.style["back"]
    if box.style["border"] == "1" and (x in (left, left + wide - 1) or y in (top, top + high - 1)):
        return ("#", box.style["color"], below[2] if back == "clear" else back)
    return None if back == "clear" else (" ", "black", back)
