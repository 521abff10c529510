"""Names of places."""

MOST_LETTERS = 6


def is_name(thing):
    """True where the thing is a text of one to six small letters a to z, else False."""
    if not isinstance(thing, str) or not 1 <= len(thing) <= MOST_LETTERS:
        return False
    return all(["a" <= letter <= "z" for letter in thing])


def are_rising(things):
    """True where all things of the list or tuple are names, sorted and each once, else False."""
    # Whatever things may stand in it: only texts are safely sorted.
    return all([is_name(thing) for thing in things]) and list(things) == sorted(set(things))
