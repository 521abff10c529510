"""Openings: rising tuples of the places of sites where houses are opened."""

from openhouses.names import are_rising


def is_opening(case, thing):
    """True where the thing is an opening of the case, else False."""
    if not isinstance(thing, tuple) or not 1 <= len(thing) <= most_houses(case):
        return False
    sites = dict(case[1])
    return are_rising(thing) and all([place in sites for place in thing])


def openings(case):
    """The sorted list of all openings of the case."""
    most = most_houses(case)
    begun = [()]
    for place, number in case[1]:
        begun = begun + [houses + (place,) for houses in begun if len(houses) < most]
    return sorted([houses for houses in begun if houses])


def most_houses(case):
    """How many houses an opening has at most."""
    web, sites, folk, limit = case
    return len(sites) if limit is None else min(limit, len(sites))
