"""Whole numbers."""


def is_whole(thing):
    """True where the thing is a whole number, else False."""
    # A truth is an int to Python, but no whole number here.
    return isinstance(thing, int) and not isinstance(thing, bool)


def is_whole_from(thing, least):
    """True where the thing is a whole number from the least on, else False."""
    return is_whole(thing) and thing >= least


def is_written(word):
    """True where the text is a whole number from 0 on, by its figures, no nought ahead but in 0 itself; else False."""
    if not word or not all(["0" <= sign <= "9" for sign in word]):
        return False
    return word == "0" or word[0] != "0"
