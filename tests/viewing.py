"""All that a viewer shows, and deeds by chance at one."""

from freshpage import errors
from freshpage.boards import board, hit, painter
from freshpage.events import fired
from freshpage.reader import read, stretches
from freshpage.rooms import rooms
from freshpage.styles import PROPERTIES, style_lead, styles
from freshpage.trees import nodes_of
from freshpage.viewer import Viewer
from chance_events import WORTHS, chance_event_page
from shapes import LAID_VALUES, chance_laid_looks, chance_laid_page

REFUSALS = (errors.NoNode, errors.NotTag, errors.NotFormed, errors.NoPlace, errors.NoWidth, errors.NoMark,
            errors.NoProperty, errors.TooLarge)


def corners(viewer, high):
    """Cells in all parts of the board, and some beyond it."""
    wide = viewer.width()
    cells = [(x * 3 % wide, y) for x in range(3) for y in range(high)] if wide else []
    return [*cells[:60], (0, 0), (wide - 1, high - 1), (-1, 0), (wide, 0), (0, high)]


def all_of(viewer):
    """All that a viewer shows of the present page."""
    tree, cells = viewer.tree(), viewer.board()
    nodes = range(len(nodes_of(tree)))
    places = corners(viewer, len(cells))
    return {
        "tree": tree, "text": viewer.text(), "looks": viewer.looks(), "width": viewer.width(), "board": cells,
        "styles": [viewer.style(node) for node in nodes], "rooms": [viewer.room(node) for node in nodes],
        "stretches": [viewer.stretch(node) for node in nodes],
        "leads": [viewer.lead(node, name) for node in nodes for name in PROPERTIES],
        "hits": [viewer.hit(x, y) for x, y in places], "cell leads": [viewer.cell_lead(x, y) for x, y in places],
    }


def all_told(text, looks, width):
    """The same by the functions that are handed a tree, looks and a width."""
    tree = read(text)
    nodes = range(len(nodes_of(tree)))
    cells = board(tree, looks, width=width)
    places = corners(Viewer(text, looks=looks, width=width), len(cells))
    painters = [painter(tree, looks, x, y, width=width) for x, y in places]
    spans = stretches(text)
    return {
        "tree": tree, "text": text, "looks": looks, "width": width, "board": cells, "styles": styles(tree, looks),
        "rooms": rooms(tree, looks, width=width), "stretches": spans,
        "leads": [style_lead(tree, looks, node, name) for node in nodes for name in PROPERTIES],
        "hits": [hit(tree, looks, x, y, width=width) for x, y in places],
        "cell leads": [None if node is None else (node, spans[node]) for node in painters],
    }


def chance_deed(chance, viewer):
    """The name of a deed and what is handed to it, mostly such as is not refused."""
    nodes = nodes_of(viewer.tree())
    node = chance.randrange(len(nodes)) if chance.random() < 0.95 else chance.choice((-1, len(nodes), 10 ** 19))
    piece = chance.choice((chance_laid_page(chance, 5), "x", "", "<p>one two", "<b>z</b>", "</p>", "&lt;", "<em", "x y "))
    kind = chance.randrange(15)
    if kind < 3:
        name = chance.choice([*WORTHS, "look", "look", "class", "id", "Bad"])
        value = chance.choice(LAID_VALUES) if name == "look" else chance.choice(("x", "y", "a", "go", ""))
        return ("put_worth", node, name, value)
    if kind == 3:
        return ("drop_worth", node, chance.choice(WORTHS))
    if kind == 4:
        return ("put", node, chance.choice((0, 0, 1, 2, -1)), piece)
    if kind == 5:
        return ("cut", node)
    if kind == 6:
        return ("set_text", node, chance.choice(("x", "", "a b", "&<b>")))
    if kind == 7:
        return ("set_looks", chance_laid_looks(chance, 6) if chance.random() < 0.95 else "\n" * 60)
    if kind == 8:
        return ("resize", chance.choice((0, 1, 5, 9, 20, 40, 120, 121)))
    if kind in (9, 10):
        at = chance.randint(-1, len(viewer.text()) + 1) if viewer.text() else 0
        return ("edit", at, chance.choice((0, 0, 1, 3, 10)), piece)
    return ("fire", chance.choice(("click", "ping", "key", "Bad")), node)


def do(viewer, deed):
    """Does a deed; the error that refuses it, or None."""
    try:
        getattr(viewer, deed[0])(*deed[1:])
    except REFUSALS as error:
        return error
    return None


def outcome_of(viewer, kind, node):
    """What an event would do by the function that is handed a tree, or the refusal's class."""
    try:
        return fired(viewer.tree(), viewer.looks(), kind, node, width=viewer.width())
    except REFUSALS as error:
        return type(error)


def chance_viewer(chance):
    text = chance_event_page(chance)[:1500] if chance.random() < 0.5 else ""
    text += chance_laid_page(chance, 15)
    return Viewer(text, looks=chance_laid_looks(chance, 6), width=chance.choice((5, 12, 20, 40)))
