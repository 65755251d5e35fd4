"""Keeps the last few answers, as what is asked once is mostly asked again: rows of (what was asked, answer)."""

MOST_KEPT = 8


def kept_answer(rows, asked):
    """The answer that is kept to what is asked, or None."""
    for told, answer in rows:
        if told == asked:
            return answer
    return None


def kept_with(rows, asked, answer):
    """The rows with one more ahead of them, the last ones gone where they are too many."""
    return ((asked, answer), *rows[:MOST_KEPT - 1])
