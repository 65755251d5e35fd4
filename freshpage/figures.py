"""Whole numbers as they are written by figures."""

FIGURES = "0123456789"


def number_of(text, most_figures):
    """The whole number that a text of at most so many figures is, or None where it is not so written."""
    figures = text.removeprefix("-")
    # Ahead of `int`, which reads other texts as well, and none of too many figures.
    if figures == "" or len(figures) > most_figures or figures.strip(FIGURES) != "":
        return None
    number = int(text)
    return number if str(number) == text else None
