"""A page with its looks and its width: what is worked out of it, and deeds that renew just the parts they touch."""

from freshpage.blocks import kinds_in, set_out_blocks
from freshpage.covers import BARE, covers_of, room_at, rooms_and_runs
from freshpage.kept import kept_answer, kept_with
from freshpage.places import behind_of, numbered, places_of
from freshpage.sheets import sheet_of
from freshpage.styles import lead_of, style_places
from freshpage.trees import places_behind, with_child, with_put, with_text, with_worth, without, without_worth

PAGES = None


class Watched:
    """The number of a tag through deeds, None when it is gone."""

    def __init__(self, number):
        self.number = number


class Page:
    """A tree, looks made ready and a width. Styles and blocks are kept with the places of the nodes, the rest whole."""

    def __init__(self, tree, looks, width):
        self.tree = tree
        self.sheet = sheet_of(looks)
        self.width = width
        self.places = places_of(tree)
        self.watched = []
        self.forget()

    def forget(self):
        """Forgets what hangs on the whole page."""
        self._kinds = None
        self._is_set_out = False
        self._rooms = None
        self._runs = None
        self._covers = None
        self._board = None

    def kinds(self):
        """How each node is laid; at hand where all styles are."""
        if self._kinds is None:
            style_places(self.places, self.sheet)
            self._kinds = kinds_in(self.places)
        return self._kinds

    def style(self, node):
        """The style of a node."""
        self.kinds()
        return self.places[node].style

    def lead(self, node, name):
        """What gave a node its value of a property."""
        return lead_of(self.places[node], name, self.sheet)

    def set_out(self):
        """Sets out all blocks, where that is still to be done."""
        if not self._is_set_out:
            set_out_blocks(self.places, self.kinds(), self.width)
            self._is_set_out = True

    def rooms(self):
        """The rooms of all nodes."""
        if self._rooms is None:
            self.set_out()
            self._rooms, self._runs = rooms_and_runs(self.places, self.kinds())
        return self._rooms

    def room(self, node):
        """The room of one node, for which the others are not worked out."""
        if self._rooms is not None:
            return self._rooms[node]
        self.set_out()
        return room_at(self.places, self.kinds(), node)

    def board_high(self):
        """How many rows the board has."""
        self.set_out()
        block = self.places[0].block
        return block.high + 2 * block.margin

    def covers(self):
        """All that covers cells and is not hidden, in the order in which it is painted."""
        if self._covers is None:
            rooms = self.rooms()
            self._covers = covers_of(self.places, self.kinds(), rooms, self._runs)
        return self._covers

    def board(self):
        """The rows of the board, the asker's own."""
        if self._board is None:
            self._board = [[BARE] * self.width for _ in range(self.board_high())]
            for cover in self.covers():
                if cover.is_unit:
                    cover.paint(self._board)
        return [list(row) for row in self._board]

    def hit(self, x, y):
        """The tag that is hit at a cell, or None."""
        if self.is_on_board(x, y):
            for cover in reversed(self.covers()):
                if cover.holds(x, y):
                    return cover.place.number if cover.signs is None else cover.place.parent.number
        return None

    def painter(self, x, y):
        """The node of the last unit that painted a cell, or None."""
        if self.is_on_board(x, y):
            for cover in reversed(self.covers()):
                if cover.paints(x, y):
                    return cover.place.number
        return None

    def is_on_board(self, x, y):
        """Whether the board has a cell."""
        return 0 <= x < self.width and 0 <= y < self.board_high()

    def watch(self, node):
        """What tells the number of a tag through the deeds to come."""
        watched = Watched(node)
        self.watched.append(watched)
        return watched

    def way_to(self, node):
        """The numbers of the tags around a tag, from the page on, and its own."""
        way = []
        place = self.places[node]
        while place is not None:
            way.append(place.number)
            place = place.parent
        return way[::-1]

    def nearest(self, node, name):
        """The number of the nearest tag of a name, this one or one around it, or None."""
        way = self.way_to(node)
        for number in reversed(way):
            if self.places[number].name == name:
                return number
        return None

    def first_tag(self, key, value, name=None):
        """The number of the first tag, of a name if one is told, that has a worth of this value, or None."""
        for place in self.places:
            if place.worths.get(key) == value and name in (None, place.name):
                return place.number
        return None

    def signs_within(self, node):
        """All signs of all texts within a tag."""
        return "".join([place.signs for place in self.places[node:behind_of(self.places, node)]])

    def put_worth(self, node, name, value):
        """A worth put at a tag."""
        self.renew(node, with_worth(self.places, node, name, value), node + 1, node + 1)

    def drop_worth(self, node, name):
        """A worth dropped at a tag."""
        self.renew(node, without_worth(self.places, node, name), node + 1, node + 1)

    def put(self, node, at, text):
        """A text, read as a page, put in at a tag ahead of its child of a number."""
        tag = with_put(self.places, node, at, text)
        number = node + 1
        for _ in range(at):
            number = behind_of(self.places, number)
        self.renew(node, tag, number, number)

    def put_last(self, node, text):
        """A text, read as a page, put in at a tag behind all its children."""
        self.put(node, len(self.places[node].node[3]), text)

    def cut(self, node):
        """A node cut."""
        tag = without(self.places, node)
        self.renew(self.places[node].parent.number, tag, node, behind_of(self.places, node))

    def set_text(self, node, text):
        """A text put in the place of all children of a tag."""
        tag = with_text(self.places, node, text)
        self.renew(node, tag, node + 1, behind_of(self.places, node))

    def renew(self, node, tag, gone, behind):
        """Another tag in the place of one, where by this the nodes from a number to one are gone."""
        within = places_behind(self.places, node, tag)
        old = self.places[node:behind_of(self.places, node)]
        if tag == old[0].node:
            return
        self.places[node:node + len(old)] = within
        numbered(self.places)
        move = Move(gone, behind, len(within) - len(old))
        for at, place in enumerate(old):
            number = move.number_of(node + at)
            if number is not None:
                keep_work(place, self.places[number])
        for watched in self.watched:
            watched.number = move.number_of(watched.number)
        self.renew_around(within[0])
        self.forget()

    def renew_around(self, place):
        """Puts a tag that is another one into those around it, whose blocks are to be set out anew."""
        while place.parent is not None:
            around = place.parent
            around.node = with_child(around.node, place.at, place.node)
            around.block = None
            place = around
        self.tree = place.node

    def set_looks(self, looks):
        """Other looks: all styles and blocks are to be worked out."""
        if looks == self.sheet.text:
            return
        self.sheet = sheet_of(looks)
        for place in self.places:
            place.own = None
            place.style = None
            place.block = None
        self.forget()

    def resize(self, width):
        """Another width: the blocks whose available width is another one are to be set out."""
        self.width = width
        self.forget()

    def work(self):
        """The nodes whose style was worked out and those whose block was set out, since this was told last."""
        styled = [place.number for place in self.places if place.was_styled]
        set_out = [place.number for place in self.places if place.was_set_out]
        for place in self.places:
            place.was_styled = False
            place.was_set_out = False
        return styled, set_out


class Move:
    """How a deed moves the numbers of nodes: which are gone, and by how many those behind are moved."""

    def __init__(self, gone, behind, more):
        self.gone = gone
        self.behind = behind
        self.more = more

    def number_of(self, number):
        """The number that a node has behind the deed, None when it is gone."""
        if number is None or number < self.gone:
            return number
        return None if number < self.behind else number + self.more


def keep_work(old, new):
    """Keeps at a new place of a node what is still to be told of the work at its old one."""
    new.was_styled = new.was_styled or old.was_styled
    new.was_set_out = new.was_set_out or old.was_set_out


def page_behind(page, tree, looks, width):
    """A page made anew, which has still to tell of the work at the one ahead of it."""
    new = Page(tree, looks, width)
    for old_place, new_place in zip(page.places, new.places):
        keep_work(old_place, new_place)
    return new


def page_of(tree, looks, width):
    """A page that is only asked, as others are told the same one."""
    global PAGES
    rows = PAGES or ()
    page = kept_answer(rows, (tree, looks, width))
    if page is None:
        page = Page(tree, looks, width)
        PAGES = kept_with(rows, (tree, looks, width), page)
    return page
