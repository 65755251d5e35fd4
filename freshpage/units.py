"""What is painted, in its order."""

from freshpage.pages import page_of
from freshpage.rooms import WIDTH


def units(tree, looks, *, width=WIDTH):
    """The units: ("box", node, (x, y, wide, high)) and ("signs", node, (x, y), text), those hidden left out."""
    return [cover.told() for cover in page_of(tree, looks, width).covers() if cover.is_unit]
