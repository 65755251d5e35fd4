"""The errors that the program tells, none under another one."""


class NoNode(LookupError):
    """A number that no node has, or a child's number that is none."""


class NotTag(RuntimeError):
    """A text where a tag is wanted, or a tag with which this is not done."""


class NotFormed(ValueError):
    """A name that is no word, or a text that may not stand where it is put."""


class NoPlace(IndexError):
    """Signs of a text that are not there."""


class NoWidth(ValueError):
    """A width that a viewer does not have."""


class NoMark(KeyError):
    """A mark that is not set."""


class NoProperty(KeyError):
    """A name that no property of a style has."""


class TooLarge(RuntimeError):
    """More than `most` nodes, levels, signs or rows, of which `most` tells."""

    def __init__(self, most):
        RuntimeError.__init__(self, f"more than {most}")
        self.most = most
