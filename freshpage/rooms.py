"""How nodes are laid, and where they stand."""

from freshpage.pages import page_of

WIDTH = 40


def kinds_of(tree, looks):
    """How each node is laid, by numbers: "block", "lines" or None."""
    # No kind hangs on the width.
    return list(page_of(tree, looks, WIDTH).kinds())


def rooms(tree, looks, *, width=WIDTH):
    """The room of each node, by numbers: (x, y, wide, high), or None."""
    return list(page_of(tree, looks, width).rooms())


def page_high(tree, looks, *, width=WIDTH):
    """How many rows the board has."""
    return page_of(tree, looks, width).board_high()
