"""Places named anew by a dict, in maps, cases, openings and papers; all is put in order again."""

from openhouses.cases import case_of
from openhouses.errors import NoNames
from openhouses.maps import map_of
from openhouses.names import is_name


def renamed_map(web, names):
    """The map with its places named anew, else NoNames."""
    need_names(web, names)
    places, ways = web
    renamed_ways = [(names[one], names[other], length) for one, other, length in ways]
    return map_of([names[place] for place in places], renamed_ways)


def renamed_case(case, names):
    """The case with the places of its map named anew, else NoNames."""
    web, sites, folk, limit = case
    return case_of(renamed_map(web, names), renamed_rows(sites, names), renamed_rows(folk, names), limit)


def renamed_opening(case, opening, names):
    """The opening of the case with its places named anew, else NoNames."""
    need_names(case[0], names)
    return tuple(sorted([new_name(place, names) for place in opening]))


def renamed_paper(case, paper, names):
    """The paper, of its form alone, with the places of the case's map named anew, else NoNames."""
    opening, ways, prices, levy = paper
    houses = renamed_opening(case, opening, names)
    goings = renamed_rows([(place, new_name(house, names)) for place, house in ways], names)
    return (houses, goings, renamed_rows(prices, names), levy)


def renamed_rows(rows, names):
    """The rows (place, something) with their places named anew, by these."""
    return tuple(sorted([(new_name(place, names), thing) for place, thing in rows], key=lambda row: row[0]))


def new_name(name, names):
    """What the name becomes: a paper's names may be others than the map's places, and stay where nothing is told."""
    return names.get(name, name)


def need_names(web, names):
    """NoNames where the thing is no dict of names by names with one for each place of the map, no two of them alike."""
    if not isinstance(names, dict):
        raise NoNames("it is no dict")
    if not all([is_name(old) and is_name(new) for old, new in names.items()]):
        raise NoNames("something in it is no name")
    if not all([place in names for place in web[0]]):
        raise NoNames("a place of the map isn't named anew")
    if len(set([names[place] for place in web[0]])) < len(web[0]):
        raise NoNames("two places of the map are named alike")
