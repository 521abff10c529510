"""Whole numbers."""


def is_whole(thing):
    """True where the thing is a whole number, else False."""
    # A truth is an int to Python, but no whole number here.
    return isinstance(thing, int) and not isinstance(thing, bool)
