"""The properties of a style: the values that each has, the plain one among them, and whether it is handed down."""

from freshpage.figures import number_of

WORDS = {
    "align": ("left", "center", "right"),
    "back": ("clear", "black", "red", "green", "blue"),
    "color": ("black", "red", "green", "blue"),
    "display": ("block", "inline", "none"),
    "hide": ("yes", "no"),
    "width": ("auto",),
}
BOUNDS = {
    "border": (0, 1),
    "down": (-50, 50),
    "layer": (-9, 9),
    "margin": (0, 20),
    "pad": (0, 20),
    "right": (-50, 50),
    "width": (0, 200),
}
PLAIN = {
    "align": "left",
    "back": "clear",
    "border": "0",
    "color": "black",
    "down": "0",
    "hide": "no",
    "layer": "0",
    "margin": "0",
    "pad": "0",
    "right": "0",
    "width": "auto",
}
PLAIN_BLOCKS = ("page", "p", "list", "item", "row")
HANDED_DOWN = ("align", "color", "hide")
MOST_PARTS = 12
MOST_FIGURES = 3


def has_value(name, value):
    """Whether a name is a property's, and a text one of its values."""
    if name not in WORDS and name not in BOUNDS:
        return False
    if value == "inherit" or value in WORDS.get(name, ()):
        return True
    if name == "width" and "/" in value:
        return is_part(value)
    return name in BOUNDS and is_between(value, BOUNDS[name])


def is_part(value):
    """Whether a text is N/M with N from 1 to M, M from 1 to 12."""
    many, _, parts = value.partition("/")
    return is_between(parts, (1, MOST_PARTS)) and is_between(many, (1, int(parts)))


def is_between(value, bounds):
    """Whether a text is a number, so written, from the least to the most."""
    least, most = bounds
    number = number_of(value, MOST_FIGURES)
    return number is not None and least <= number <= most


def plain_value(name, tag_name):
    """The plain value of a property, of a tag of that name."""
    if name != "display":
        return PLAIN[name]
    if tag_name in PLAIN_BLOCKS:
        return "block"
    return "none" if tag_name == "script" else "inline"
