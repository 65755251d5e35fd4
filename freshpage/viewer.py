"""The viewer: a page's text, looks and width, which are changed and undone, and what is shown of them."""

from freshpage.errors import NoMark, NoNode, NoPlace, NoProperty, NoWidth, TooLarge
from freshpage.events import fire_at
from freshpage.pages import Page, page_behind
from freshpage.places import places_of
from freshpage.reader import read, stretches
from freshpage.rooms import WIDTH, kinds_of
from freshpage.styles import PROPERTIES
from freshpage.trees import MOST_SIGNS, check_sizes
from freshpage.writer import written

MOST_LOOKS = 60
MOST_WIDTH = 120


class Viewer:
    """A page's text, looks and a width; all that is shown is that of a viewer made anew of the present ones."""

    def __init__(self, text, *, looks="", width=WIDTH):
        tree = bounded_tree(text)
        check_looks(looks)
        check_width(width)
        self._text = text
        self._page = Page(tree, looks, width)
        self._marks = []
        # The board of which news were told last.
        self._shown = self._page.board()

    def text(self):
        """The present text."""
        return self._text

    def looks(self):
        """The present looks."""
        return self._page.sheet.text

    def width(self):
        """The present width."""
        return self._page.width

    def tree(self):
        """The present text, read."""
        return self._page.tree

    def style(self, node):
        """The style of a node."""
        self._check_node(node)
        return self._page.style(node)

    def room(self, node):
        """The room of a node, or None."""
        self._check_node(node)
        return self._page.room(node)

    def stretch(self, node):
        """Where in the present text a node stands."""
        self._check_node(node)
        return stretches(self._text)[node]

    def lead(self, node, name):
        """What gave a node its value of a property."""
        self._check_node(node)
        if name not in PROPERTIES:
            raise NoProperty("no property has this name")
        return self._page.lead(node, name)

    def board(self):
        """The rows of the board."""
        return self._page.board()

    def hit(self, x, y):
        """The tag that is hit at a cell, or None."""
        return self._page.hit(x, y)

    def cell_lead(self, x, y):
        """The node that painted a cell last and where in the present text it stands, or None."""
        node = self._page.painter(x, y)
        return None if node is None else (node, self.stretch(node))

    def edit(self, at, many, text):
        """From a place of the text on so many signs are replaced."""
        if at < 0 or many < 0 or at + many > len(self._text):
            raise NoPlace("these signs are not there")
        edited = self._text[:at] + text + self._text[at + many:]
        tree = bounded_tree(edited)
        self._text = edited
        if tree != self._page.tree:
            self._page = page_behind(self._page, tree, self.looks(), self.width())

    def set_looks(self, looks):
        """Other looks."""
        check_looks(looks)
        self._page.set_looks(looks)

    def resize(self, width):
        """Another width."""
        check_width(width)
        self._page.resize(width)

    def put_worth(self, node, name, value):
        """A worth put at a tag."""
        before = self._page.tree
        self._page.put_worth(node, name, value)
        self._write_behind(before)

    def drop_worth(self, node, name):
        """A worth dropped at a tag."""
        before = self._page.tree
        self._page.drop_worth(node, name)
        self._write_behind(before)

    def put(self, node, at, text):
        """A text, read as a page, put in at a tag ahead of its child of a number."""
        before = self._page.tree
        self._page.put(node, at, text)
        self._write_behind(before)

    def cut(self, node):
        """A node cut."""
        before = self._page.tree
        self._page.cut(node)
        self._write_behind(before)

    def set_text(self, node, text):
        """A text put in the place of all children of a tag."""
        before = self._page.tree
        self._page.set_text(node, text)
        self._write_behind(before)

    def fire(self, kind, node, *, sign=""):
        """An event fired at a tag; its outcome."""
        before = self._page.tree
        outcome = fire_at(self._page, kind, node, sign)
        self._write_behind(before)
        return outcome

    def mark(self):
        """The number of a mark at which text, looks and width are as they are now."""
        self._marks.append((self._text, self.looks(), self.width()))
        return len(self._marks) - 1

    def undo(self, mark):
        """Text, looks and width as they were at a mark; those set later are gone."""
        if mark < 0 or mark >= len(self._marks):
            raise NoMark("no such mark is set")
        del self._marks[mark + 1:]
        text, looks, width = self._marks[mark]
        self._text = text
        self._page = page_behind(self._page, read(text), looks, width)

    def news(self):
        """The cells that are unlike on the board as it is and as it was when news were told last."""
        before = self._shown
        self._shown = self._page.board()
        return unlike_cells(before, self._shown)

    def work(self):
        """The nodes whose style was worked out, and the blocks that were set out, since this was told last."""
        styled, set_out = self._page.work()
        # Aside from the page, for which nothing is to be worked out by this.
        kinds = kinds_of(self.tree(), self.looks())
        return styled, [node for node in set_out if kinds[node] == "block"]

    def _check_node(self, node):
        """Refuses a number that no node has."""
        if node < 0 or node >= len(self._page.places):
            raise NoNode("no node has this number")

    def _write_behind(self, before):
        """The tree is written where a deed made another one of the one before."""
        if self._page.tree != before:
            self._text = written(self._page.tree)


def bounded_tree(text):
    """The tree of a text, where neither is too large."""
    if len(text) > MOST_SIGNS:
        raise TooLarge(MOST_SIGNS)
    tree = read(text)
    check_sizes(places_of(tree))
    return tree


def check_looks(looks):
    """Refuses looks that are too large."""
    if len(looks.split("\n")) > MOST_LOOKS:
        raise TooLarge(MOST_LOOKS)
    if len(looks) > MOST_SIGNS:
        raise TooLarge(MOST_SIGNS)


def check_width(width):
    """Refuses a width that a viewer does not have."""
    if width < 1 or width > MOST_WIDTH:
        raise NoWidth("a width is from 1 to 120")


def unlike_cells(one, other):
    """The cells (x, y) that are unlike on two boards, or that only one of them has, row by row."""
    cells = []
    for y in range(max(len(one), len(other))):
        ahead = one[y] if y < len(one) else []
        behind = other[y] if y < len(other) else []
        least = min(len(ahead), len(behind))
        for x in range(max(len(ahead), len(behind))):
            if x >= least or ahead[x] != behind[x]:
                cells.append((x, y))
    return cells
