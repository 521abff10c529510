"""Cases: a map with sites, folk and perhaps a limit, as a tuple (map, sites, folk, limit)."""

from openhouses.errors import NoCase
from openhouses.names import is_name
from openhouses.wholes import is_whole_from

MOST_SITES = 10
MOST_FOLK = 30


def case_of(web, sites, folk, limit):
    """The case of a map, a list or tuple of sites (place, cost), one of folk (place, many) and a limit; else NoCase."""
    if limit is not None and not is_whole_from(limit, 1):
        raise NoCase("a limit is None or a whole number from 1 on")
    return (web, rows_of(web, sites, MOST_SITES, 0), rows_of(web, folk, MOST_FOLK, 1), limit)


def rows_of(web, rows, most, least):
    """The rising tuple of one to most rows (place, number), each number from the least on; else NoCase."""
    if not isinstance(rows, (list, tuple)):
        raise NoCase("the rows are neither a list nor a tuple")
    if not 1 <= len(rows) <= most:
        raise NoCase("there is no row, or there are too many")
    rising = tuple(sorted([row_of(web, row, least) for row in rows]))
    if len(set([place for place, number in rising])) < len(rising):
        raise NoCase("a place is there twice")
    return rising


def row_of(web, row, least):
    """The row as a tuple (place, number), else NoCase."""
    if not isinstance(row, tuple) or len(row) != 2:
        raise NoCase("a row is no tuple of two things")
    place, number = row
    # Whatever thing may stand here: only a text is safely looked up among the places.
    if not is_name(place) or place not in web[0]:
        raise NoCase("a row tells what is no place of the map")
    if not is_whole_from(number, least):
        raise NoCase("a row's number is none, or too small")
    return (place, number)
