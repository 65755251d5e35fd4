"""Sessions: rows of deeds, done one behind the other at a viewer, and what is told of each."""

from freshpage.errors import NoMark, NoNode, NoPlace, NotFormed, NotTag, NoWidth, TooLarge
from freshpage.figures import number_of
from freshpage.rooms import WIDTH
from freshpage.viewer import Viewer

MOST_FIGURES = 9
UNKNOWN = "?"

# What stands behind the first word of a row: numbers, words, and last a text.
SHAPES = {
    "edit": ("number", "number", "text"),
    "looks": ("text",),
    "width": ("number",),
    "mark": ("number", "word", "text"),
    "unmark": ("number", "word"),
    "put": ("number", "number", "text"),
    "cut": ("number",),
    "text": ("number", "text"),
    "fire": ("word", "number", "text"),
    "keep": (),
    "undo": ("number",),
    "board": (),
    "room": ("number",),
    "hit": ("number", "number"),
    "news": (),
}


def session(text, rows, *, looks="", width=WIDTH):
    """What a viewer tells of the rows of a session, row by row."""
    viewer = Viewer(text, looks=looks, width=width)
    return "\n".join([told_of(viewer, row) for row in rows.split("\n")])


def told_of(viewer, row):
    """What is told of one row."""
    parts = parts_of(row)
    if parts is None:
        return UNKNOWN
    try:
        return done(viewer, parts[0], parts[1:])
    except NoNode:
        return "NoNode"
    except NotTag:
        return "NotTag"
    except NotFormed:
        return "NotFormed"
    except NoPlace:
        return "NoPlace"
    except NoWidth:
        return "NoWidth"
    except NoMark:
        return "NoMark"
    except TooLarge:
        return "TooLarge"


def parts_of(row):
    """The first word of a row and the values of what stands behind, or None where it is not so written."""
    word, blank, rest = row.partition(" ")
    if word not in SHAPES:
        return None
    told = [word]
    for shape in SHAPES[word]:
        # Each has a blank ahead, a text of no signs, too.
        if blank == "":
            return None
        if shape == "text":
            part, blank, rest = rest, "", ""
        else:
            part, blank, rest = rest.partition(" ")
        value = value_of(part, shape)
        if value is None:
            return None
        told.append(value)
    return told if blank == "" else None


def value_of(part, shape):
    """The value of a part, or None where it is not so written."""
    if shape == "number":
        return number_of(part, MOST_FIGURES)
    if shape == "text":
        return plain_text(part)
    return None if part == "" else part


def plain_text(signs):
    """The text that is so said, or None where a backslash stands by itself."""
    pieces = []
    for piece in signs.split("\\\\"):
        plain = piece.replace("\\n", "\n")
        if "\\" in plain:
            return None
        pieces.append(plain)
    return "\\".join(pieces)


def said(part):
    """A part of a tuple as a row says it."""
    return part.replace("\\", "\\\\").replace("\n", "\\n") if isinstance(part, str) else str(part)


def done(viewer, word, parts):
    """Does a row that is so written, and tells of it."""
    if word == "fire":
        kind, node, sign = parts
        outcome = viewer.fire(kind, node, sign=sign)
        return " ".join([" ".join([said(part) for part in one]) + " /" for one in outcome])
    if word == "keep":
        return str(viewer.mark())
    if word in ("board", "room", "hit", "news"):
        return shown(viewer, word, parts)
    do(viewer, word, parts)
    return "ok"


def do(viewer, word, parts):
    """Does a deed of which nothing else is told."""
    if word == "edit":
        viewer.edit(*parts)
    elif word == "looks":
        viewer.set_looks(*parts)
    elif word == "width":
        viewer.resize(*parts)
    elif word == "mark":
        viewer.put_worth(*parts)
    elif word == "unmark":
        viewer.drop_worth(*parts)
    elif word == "put":
        viewer.put(*parts)
    elif word == "cut":
        viewer.cut(*parts)
    elif word == "text":
        viewer.set_text(*parts)
    else:
        viewer.undo(*parts)


def shown(viewer, word, parts):
    """What a viewer shows."""
    if word == "board":
        return "".join(["".join([sign for sign, _, _ in row]) + "|" for row in viewer.board()])
    if word == "room":
        room = viewer.room(*parts)
        return "none" if room is None else " ".join([str(number) for number in room])
    if word == "hit":
        node = viewer.hit(*parts)
        return "none" if node is None else str(node)
    return str(len(viewer.news()))
