"""Reads scripts: their rows, and the row that is at fault by itself."""

from freshpage.figures import number_of
from freshpage.words import is_word

TERM_WORDS = ("sign", "wide", "high", "left", "top", "worth", "look")
PLACE_WORDS = ("wide", "high", "left", "top")
VALUE_WORDS = ("worth", "look")
SIGNS = ("+", "-", "<", "=", "&")
MOST_FIGURES = 9
MOST_AROUND = 12
FAULT = ("fault",)

# What stands behind the first word of a row.
SHAPES = {
    "let": ("name", "term"),
    "mark": ("who", "word", "term"),
    "unmark": ("who", "word"),
    "text": ("who", "term"),
    "add": ("who", "term"),
    "cut": ("who",),
    "say": ("term",),
    "if": ("term",),
    "else": (),
    "end": (),
    "loop": ("term",),
    "stop": (),
    "prevent": (),
    "send": ("word", "who"),
}


def rows_of(code):
    """The rows: each None, ("fault",), or the tuple of its words and of its term's parts as they are written."""
    return [row_of(row.strip(" ")) for row in code.split("\n")]


def fits(code):
    """The number of the row that is at fault by itself, the least one, or None."""
    return fault_of(rows_of(code))


def row_of(signs):
    """A row without blanks at its ends."""
    if signs == "":
        return None
    words = words_of(signs)
    if words is None or words[0] not in SHAPES:
        return FAULT
    told = [words[0]]
    at = 1
    for shape in SHAPES[words[0]]:
        # A term stands last, so it has all that is left.
        parts = term_parts(words[at:]) if shape == "term" else words[at:at + 1]
        if not parts or not is_shaped(parts[0], shape):
            return FAULT
        told.extend(parts)
        at = len(words) if shape == "term" else at + 1
    return tuple(told) if at == len(words) else FAULT


def words_of(signs):
    """The words, each text in marks one of them; None where they are not parted by single blanks."""
    words = []
    at = 0
    while at <= len(signs):
        behind = word_end(signs, at)
        if behind == at or signs[behind:behind + 1] not in ("", " "):
            return None
        words.append(signs[at:behind])
        at = behind + 1
    return words


def word_end(signs, at):
    """The place behind the word that begins at a place, which is that place where none does."""
    if signs.startswith('"', at):
        mark = signs.find('"', at + 1)
        return at if mark < 0 else mark + 1
    blank = signs.find(" ", at)
    return len(signs) if blank < 0 else blank


def is_shaped(word, shape):
    """Whether a word is a who, a word, or a word that may be let; a term is looked at by its parts."""
    if shape == "who":
        return is_who(word)
    if shape == "name":
        return is_name(word)
    return shape == "term" or is_word(word)


def is_who(word):
    """Whether a word names a tag."""
    return word in ("this", "target") or (word.startswith("#") and is_word(word[1:]))


def is_name(word):
    """Whether a word may be a name that is let."""
    return is_word(word) and word not in TERM_WORDS


def term_parts(words):
    """The part of a term, or its two with the sign between; none where words are no term."""
    sign = part_end(words, 0)
    if sign == 0:
        return []
    if sign == len(words):
        return [" ".join(words)]
    if words[sign] not in SIGNS or part_end(words, sign + 1) != len(words):
        return []
    return [" ".join(words[:sign]), words[sign], " ".join(words[sign + 1:])]


def part_end(words, at):
    """The number behind the last word of the part that begins with a word, or 0 where none does."""
    rest = words[at:]
    if not rest:
        return 0
    if rest[0] in PLACE_WORDS:
        return at + 2 if len(rest) > 1 and is_who(rest[1]) else 0
    if rest[0] in VALUE_WORDS:
        return at + 3 if len(rest) > 2 and is_who(rest[1]) and is_word(rest[2]) else 0
    return at + 1 if is_short_part(rest[0]) else 0


def is_short_part(word):
    """Whether a word is a part of a term by itself."""
    return word == "sign" or word.startswith('"') or is_name(word) or number_of(word, MOST_FIGURES) is not None


class Opened:
    """An if or a loop that has no end yet."""

    def __init__(self, number, is_if):
        self.number = number
        self.is_if = is_if
        self.has_else = False


def fault_of(rows):
    """The number of the row that is at fault by itself, the least one, or None."""
    opened = []
    faults = []
    for number, row in enumerate(rows):
        if row is None:
            continue
        if is_at_fault(row[0], opened):
            faults.append(number)
        if row[0] in ("if", "loop"):
            opened.append(Opened(number, row[0] == "if"))
        elif row[0] == "else" and opened:
            opened[-1].has_else = True
        elif row[0] == "end" and opened:
            opened.pop()
    faults.extend([one.number for one in opened])
    return min(faults, default=None)


def is_at_fault(word, opened):
    """Whether a row that begins with a word is at fault behind what is open so far."""
    if word in ("if", "loop"):
        return len(opened) >= MOST_AROUND
    if word == "else":
        return not opened or not opened[-1].is_if or opened[-1].has_else
    return word == "fault" or (word == "end" and not opened)
