"""Rows by places in order, as prices, fees and the goings of papers have them."""

from openhouses.names import is_name


def are_folk_rows(case, thing):
    """True where the thing is a tuple of rows (place, something) for all of the folk's places in order, else False."""
    return are_rows(thing, [place for place, many in case[2]])


def are_rows(thing, places):
    """True where the thing is a tuple of rows (place, something) for these places in order, else False."""
    if not isinstance(thing, tuple) or len(thing) != len(places):
        return False
    return all([is_row_of(row, place) for row, place in zip(thing, places)])


def is_row_of(row, place):
    """True where the row is a tuple of this place and one thing more, else False."""
    # Whatever thing may stand there: only a text is safely compared with the place.
    return isinstance(row, tuple) and len(row) == 2 and is_name(row[0]) and row[0] == place
