"""What an opening costs: the houses, the ways to them, and both together."""

from openhouses.fars import nearest


def goings(case, opening):
    """A list of tuples (place, house, far), by the folk's places."""
    web, sites, folk, limit = case
    houses = nearest(web, opening)
    return [(place, houses[place][1], houses[place][0]) for place, many in folk]


def houses_cost(case, opening):
    """What the houses of the opening cost together."""
    costs = dict(case[1])
    return sum([costs[house] for house in opening])


def ways_cost(case, opening):
    """What the ways to the opening's houses cost: for each of the folk's places many times far, together."""
    manys = dict(case[2])
    return sum([manys[place] * length for place, house, length in goings(case, opening)])


def cost(case, opening):
    """What the opening costs: its houses and the ways to them."""
    return houses_cost(case, opening) + ways_cost(case, opening)
