"""Maps: places with ways between them, as a tuple (places, ways)."""

from openhouses.errors import NoMap
from openhouses.names import is_name
from openhouses.wholes import is_whole_from

MOST_PLACES = 30


def map_of(places, ways):
    """The map of a list or tuple of places and one of ways (one, other, length); else NoMap."""
    rising = places_of(places)
    web = (rising, ways_of(ways, rising))
    if not is_joined(web):
        raise NoMap("no ways lead from some place to another one")
    return web


def places_of(places):
    """The rising tuple of the places, else NoMap."""
    if not isinstance(places, (list, tuple)):
        raise NoMap("the places are neither a list nor a tuple")
    if not 1 <= len(places) <= MOST_PLACES:
        raise NoMap("a map has one to thirty places")
    if not all([is_name(place) for place in places]):
        raise NoMap("a place is no name")
    rising = tuple(sorted(set(places)))
    if len(rising) < len(places):
        raise NoMap("a place is there twice")
    return rising


def ways_of(ways, places):
    """The rising tuple of the ways between these places, else NoMap."""
    if not isinstance(ways, (list, tuple)):
        raise NoMap("the ways are neither a list nor a tuple")
    rising = tuple(sorted([way_of(way, places) for way in ways]))
    pairs = [(one, other) for one, other, length in rising]
    if len(set(pairs)) < len(pairs):
        raise NoMap("two ways have the same two places")
    return rising


def way_of(way, places):
    """The way with its lesser place first, else NoMap."""
    if not isinstance(way, tuple) or len(way) != 3:
        raise NoMap("a way is no tuple of three things")
    one, other, length = way
    # Whatever thing may stand here: only a text is safely looked up among the places.
    if not is_name(one) or not is_name(other) or one not in places or other not in places:
        raise NoMap("a way leads to what is no place of the map")
    if one == other:
        raise NoMap("a way leads from a place to itself")
    if not is_whole_from(length, 1):
        raise NoMap("a length is no whole number from 1 on")
    return (min(one, other), max(one, other), length)


def neighbours(web):
    """A dict from each place to a dict of the places that a way joins to it, with the lengths."""
    places, ways = web
    beside = {place: {} for place in places}
    for one, other, length in ways:
        beside[one][other] = length
        beside[other][one] = length
    return beside


def is_joined(web):
    """True where ways lead from each place to each other one, else False."""
    return len(came_from(web)) == len(web[0])


def came_from(web):
    """A dict from each place that is reached from the first one to the place it is reached from, None of the first.

    Each place stands in it behind the one it is reached from.
    """
    beside = neighbours(web)
    first = web[0][0]
    behind = {first: None}
    ahead = [first]
    while ahead:
        here = ahead.pop()
        for place in beside[here]:
            if place not in behind:
                behind[place] = here
                ahead.append(place)
    return behind
