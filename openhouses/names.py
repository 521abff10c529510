"""Names of places."""

MOST_LETTERS = 6


def is_name(thing):
    """True where the thing is a text of one to six small letters a to z, else False."""
    if not isinstance(thing, str) or not 1 <= len(thing) <= MOST_LETTERS:
        return False
    return all(["a" <= letter <= "z" for letter in thing])
