"""Rows by the folk's places, as prices and the goings of papers have them."""

from openhouses.names import is_name


def are_folk_rows(case, thing):
    """True where the thing is a tuple of rows (place, something) for all of the folk's places in order, else False."""
    folk = case[2]
    if not isinstance(thing, tuple) or len(thing) != len(folk):
        return False
    return all([is_row_of(row, place) for row, (place, many) in zip(thing, folk)])


def is_row_of(row, place):
    """True where the row is a tuple of this place and one thing more, else False."""
    # Whatever thing may stand there: only a text is safely compared with the place.
    return isinstance(row, tuple) and len(row) == 2 and is_name(row[0]) and row[0] == place
