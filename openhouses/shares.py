"""Rooms of an opening's houses, shared by the folk within so far; or folk with too little room."""

from openhouses.fars import site_fars
from openhouses.fillings import Filling, lack_of
from openhouses.names import are_rising, is_name
from openhouses.wholes import is_whole_from


def share_of(case, opening, rooms, far):
    """("share", share) or ("lack", lack): one of both is always there."""
    filling = Filling(rooms, {pair: 0 for pair in pairs_within(case, opening, far)})
    lack = lack_of(filling, case[2])
    return ("share", filling.share()) if lack is None else ("lack", lack)


def is_share(case, opening, rooms, far, thing):
    """True where the thing is a share of the rooms within the far, else False."""
    pairs = pairs_within(case, opening, far)
    if not isinstance(thing, list) or not all([is_part(pairs, row) for row in thing]):
        return False
    told = [(place, house) for place, house, many in thing]
    if told != sorted(set(told)):
        return False
    manys = sums_by([(place, many) for place, house, many in thing])
    taken = sums_by([(house, many) for place, house, many in thing])
    return manys == dict(case[2]) and all([taken.get(house, 0) <= room for house, room in rooms])


def is_lack(case, opening, rooms, far, thing):
    """True where the thing is a rising list of folk's places with too little room within the far, else False."""
    manys = dict(case[2])
    if not isinstance(thing, list) or not are_rising(thing) or not all([place in manys for place in thing]):
        return False
    near = {house: True for place, house in pairs_within(case, opening, far) if place in thing}
    return sum([manys[place] for place in thing]) > sum([room for house, room in rooms if house in near])


def pairs_within(case, opening, far):
    """The list of tuples (place, house) of the folk's places and the houses no farther from them than the far."""
    aways = site_fars(case)
    return [(place, house) for place, many in case[2] for house in opening
            if far is None or aways[house][place] <= far]


def is_part(pairs, row):
    """True where the row is a tuple (place, house, many) of one of the pairs and a number from 1 on, else False."""
    if not isinstance(row, tuple) or len(row) != 3 or not is_whole_from(row[2], 1):
        return False
    # Whatever things may stand there: only texts are safely looked up among the pairs.
    return is_name(row[0]) and is_name(row[1]) and (row[0], row[1]) in pairs


def sums_by(rows):
    """A dict from the names of the rows (name, many) to the sums of their manys."""
    sums = {}
    for name, many in rows:
        sums[name] = sums.get(name, 0) + many
    return sums
