"""Fills lines with the words of a flow.

A run is (node, text): signs of one node beside one another. A word is (the node of the first sign that parts it from
the word ahead, its runs).
"""


def lines_of(signs, wide):
    """Of a list of (sign, node) the lines, each a list of (sign, node)."""
    lines = filled(runs_of(signs), wide)
    return [[(sign, node) for node, text in line for sign in text] for line in lines]


def runs_of(signs):
    """The runs of a list of (sign, node)."""
    runs = []
    for sign, node in signs:
        put_run(runs, node, sign)
    return runs


def put_run(runs, node, text):
    """Puts signs of a node behind runs, to the last one if it is of this node."""
    if runs and runs[-1][0] == node:
        text = runs.pop()[1] + text
    runs.append((node, text))


def filled(runs, wide):
    """The lines, each a list of runs, into which the words of runs go."""
    wide = max(1, wide)
    lines = []
    used = wide
    for parted_by, word in words_of(runs):
        many = sum([len(signs) for _, signs in word])
        if used + 1 + many <= wide:
            put_run(lines[-1], parted_by, " ")
            used += 1
        else:
            lines.append([])
            used = 0
        for node, text in word:
            used = put_signs(lines, used, wide, node, text)
    return lines


def put_signs(lines, used, wide, node, text):
    """Puts signs of a word on the last line, and on new ones where it is full; how many signs the last one has."""
    while used + len(text) > wide:
        room = wide - used
        if room > 0:
            put_run(lines[-1], node, text[:room])
        text = text[room:]
        lines.append([])
        used = 0
    put_run(lines[-1], node, text)
    return used + len(text)


def words_of(runs):
    """The words of runs, in their order."""
    words = []
    word = []
    parted_by = None
    for node, text in runs:
        for at, signs in enumerate(text.replace("\n", " ").split(" ")):
            if at > 0 and word:
                words.append((parted_by, word))
                word = []
                parted_by = node
            if signs != "":
                word.append((node, signs))
    if word:
        words.append((parted_by, word))
    return words
