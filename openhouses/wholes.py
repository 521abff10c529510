"""Whole numbers."""


def is_whole(thing):
    """True where the thing is a whole number, else False."""
    # A truth is an int to Python, but no whole number here.
    return isinstance(thing, int) and not isinstance(thing, bool)


def is_whole_from(thing, least):
    """True where the thing is a whole number from the least on, else False."""
    return is_whole(thing) and thing >= least
