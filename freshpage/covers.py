"""Where nodes stand on the board, and what covers and paints its cells."""

from freshpage.styles import value_of

BARE = (" ", "black", "clear")


class Cover:
    """A box of a block, or a run of a text's signs in a line: the cells that it covers and what it paints there."""

    def __init__(self, level, place, box, signs, back):
        self.level = level
        self.place = place
        self.box = box
        # None of a box.
        self.signs = signs
        self.back = back
        self.color = value_of(place.style, "color")
        self.has_border = signs is None and value_of(place.style, "border") == "1"
        self.is_unit = signs is not None or self.has_border or back != "clear"

    def holds(self, x, y):
        """Whether it covers a cell."""
        left, top, wide, high = self.box
        return left <= x < left + wide and top <= y < top + high

    def paints(self, x, y):
        """Whether it paints a cell: a box without a back just that at its edges."""
        if not self.holds(x, y):
            return False
        return self.signs is not None or self.back != "clear" or (self.has_border and self.is_edge(x, y))

    def is_edge(self, x, y):
        """Whether a cell that it covers is at one of its edges."""
        left, top, wide, high = self.box
        return x in (left, left + wide - 1) or y in (top, top + high - 1)

    def paint(self, rows):
        """Paints the rows of a board, what is beyond them left out."""
        _, top, _, high = self.box
        for y in range(max(0, top), min(len(rows), top + high)):
            if self.signs is None:
                self.paint_box(rows[y], y)
            else:
                self.paint_signs(rows[y])

    def paint_signs(self, row):
        """Paints its signs, their backs as they are where it has none."""
        left, _, wide, _ = self.box
        for x in range(max(0, left), min(len(row), left + wide)):
            back = row[x][2] if self.back == "clear" else self.back
            row[x] = (self.signs[x - left], self.color, back)

    def paint_box(self, row, y):
        """Paints what the box has in a row: its back, then its border, whose signs keep the backs."""
        left, top, wide, high = self.box
        first = max(0, left)
        behind = min(len(row), left + wide)
        if self.back != "clear" and first < behind:
            row[first:behind] = [(" ", "black", self.back)] * (behind - first)
        if self.has_border:
            edges = list(range(first, behind)) if y in (top, top + high - 1) else [left, left + wide - 1]
            for x in edges:
                if first <= x < behind:
                    row[x] = ("#", self.color, row[x][2])

    def told(self):
        """The unit as it is told."""
        left, top, _, _ = self.box
        if self.signs is None:
            return ("box", self.place.number, self.box)
        return ("signs", self.place.number, (left, top), self.signs)


def rooms_and_runs(places, kinds):
    """By the nodes' numbers the rooms, and the runs of each text: (x, y, signs)."""
    rooms = [None] * len(places)
    runs = [[] for _ in places]
    for place in places:
        if kinds[place.number] == "block":
            rooms[place.number] = box_of(place, (0, 0) if place.parent is None else rooms[place.parent.number])
            left, top, _, _ = rooms[place.number]
            for text, x, y, signs in place.block.runs:
                runs[text.number].append((left + x, top + y, signs))
    for place in reversed(places):
        if kinds[place.number] == "lines":
            for x, y, signs in runs[place.number]:
                rooms[place.number] = joined(rooms[place.number], (x, y, len(signs), 1))
            if kinds[place.parent.number] == "lines":
                rooms[place.parent.number] = joined(rooms[place.parent.number], rooms[place.number])
    return rooms, runs


def room_at(places, kinds, node):
    """The room of one node alone, as `rooms_and_runs` tells it of all."""
    place = places[node]
    if kinds[node] is None:
        return None
    if kinds[node] == "block":
        around = (0, 0) if place.parent is None else room_at(places, kinds, place.parent.number)
        return box_of(place, around)
    block = place.parent
    while kinds[block.number] == "lines":
        block = block.parent
    left, top, _, _ = room_at(places, kinds, block.number)
    room = None
    for text, x, y, signs in block.block.runs:
        if is_within(text, place):
            room = joined(room, (left + x, top + y, len(signs), 1))
    return room


def is_within(inner, place):
    """Whether a place is another one or within it."""
    while inner.deep > place.deep:
        inner = inner.parent
    return inner.number == place.number


def box_of(place, around):
    """The border box of a block, as moved, of the place where what is around it stands."""
    block = place.block
    x = around[0] + block.x + int(value_of(place.style, "right"))
    y = around[1] + block.y + int(value_of(place.style, "down"))
    return (x, y, block.wide, block.high)


def joined(one, other):
    """The least box that has all cells of two, each of which may be None."""
    if one is None or other is None:
        return other if one is None else one
    left = min(one[0], other[0])
    top = min(one[1], other[1])
    right = max(one[0] + one[2], other[0] + other[2])
    bottom = max(one[1] + one[3], other[1] + other[3])
    return (left, top, right - left, bottom - top)


def covers_of(places, kinds, rooms, runs):
    """All that covers cells and is not hidden, in the order in which it is painted."""
    levels = []
    covers = []
    for place in places:
        around = 0 if place.parent is None else levels[place.parent.number]
        levels.append(around if place.name is None else around + int(value_of(place.style, "layer")))
        if kinds[place.number] is not None and value_of(place.style, "hide") == "no":
            covers.extend(covers_at(place, kinds, rooms[place.number], runs[place.number], levels[-1]))
    # Those of one level stay as they are: by numbers, then by lines.
    return sorted(covers, key=lambda cover: cover.level)


def covers_at(place, kinds, room, runs, level):
    """What covers cells of one node itself."""
    if kinds[place.number] == "block":
        return [Cover(level, place, room, None, value_of(place.style, "back"))]
    if not runs:
        return []
    back = back_behind(place, kinds)
    return [Cover(level, place, (x, y, len(signs), 1), signs, back) for x, y, signs in runs]


def back_behind(place, kinds):
    """The back of the innermost tag in lines around a text that has one, or clear."""
    around = place.parent
    while kinds[around.number] == "lines":
        back = value_of(around.style, "back")
        if back != "clear":
            return back
        around = around.parent
    return "clear"
