"""Words, and the signs that are written otherwise than they are read."""

WORD_SIGNS = "abcdefghijklmnopqrstuvwxyz-"
MOST_WORD_SIGNS = 12
SCRIPT_END = "</script>"

# The `&` comes last, as what it writes is not to be read once more.
WRITTEN_SIGNS = (("&lt;", "<"), ("&gt;", ">"), ("&quot;", '"'), ("&amp;", "&"))


def run_at(text, at, signs):
    """All that stands from a place on until a sign comes that is none of these."""
    rest = text[at:]
    return rest[:len(rest) - len(rest.lstrip(signs))]


def word_at(text, at):
    """All signs from a place on that a word may have, where they are a word, else no signs."""
    # One sign more than a word has tells that these are too many.
    word = run_at(text[at:at + MOST_WORD_SIGNS + 1], 0, WORD_SIGNS)
    if len(word) > MOST_WORD_SIGNS or word.startswith("-"):
        return ""
    return word


def is_word(text):
    """Whether the text is one to twelve small letters and `-`, a letter first."""
    return text != "" and word_at(text, 0) == text


def written_sign(text):
    """The text with each `<` and `&` as a page's text has them."""
    # The `&` comes first, as the one that writes `<` is not to be written once more.
    return text.replace("&", "&amp;").replace("<", "&lt;")


def plain_signs(text):
    """The text with each written sign as the sign that it is, read once."""
    for written, sign in WRITTEN_SIGNS:
        text = text.replace(written, sign)
    return text
