"""What the other files ask of things of any kind."""


def is_whole(thing):
    """Whether the thing is a whole number, which a truth is not."""
    return isinstance(thing, int) and not isinstance(thing, bool)


def is_whole_within(thing, low, high):
    """Whether the thing is a whole number from low to high."""
    return is_whole(thing) and low <= thing <= high


def is_letter(thing):
    """Whether the thing is one of the small letters."""
    return isinstance(thing, str) and len(thing) == 1 and "a" <= thing <= "z"
