"""The refusals of the program: each is made with one text, which str tells."""


class HeapError(ValueError):
    """Any refusal."""


class NoTree(HeapError):
    """What stands where a tree is due is none."""


class NoLetter(HeapError):
    """A tree has a letter that the judge has not."""


class NoFit(HeapError):
    """Two judges do not fit together."""


class TooMany(HeapError):
    """What should be told is more than can be."""


class NoNumber(HeapError):
    """A number, or a place told by numbers, is none that is due."""


class NoText(HeapError):
    """A text writes nothing that is due."""


class NoName(HeapError):
    """No judge stands by a name."""


class NoRow(HeapError):
    """What is said is no row."""
