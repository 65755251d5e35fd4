"""The board of cells, who is hit on it, and who painted it."""

from freshpage.pages import page_of
from freshpage.rooms import WIDTH


def board(tree, looks, *, width=WIDTH):
    """The rows of the board, each a list of cells (sign, color, back)."""
    return page_of(tree, looks, width).board()


def hit(tree, looks, x, y, *, width=WIDTH):
    """The tag that is hit at a cell, or None."""
    return page_of(tree, looks, width).hit(x, y)


def painter(tree, looks, x, y, *, width=WIDTH):
    """The node of the last unit that painted a cell, or None."""
    return page_of(tree, looks, width).painter(x, y)
