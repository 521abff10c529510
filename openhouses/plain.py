"""The plain best: all openings are gone through."""

from openhouses.fars import site_fars
from openhouses.openings import openings


def plain_best(case):
    """A tuple (cost, opening): the least that an opening costs, and the first opening that costs it."""
    costs = costs_of(case, openings(case))
    return min([(costs[opening], opening) for opening in costs])


def costs_of(case, chosen):
    """A dict from each of the chosen openings, perhaps beyond the limit, to what it costs."""
    web, sites, folk, limit = case
    charges = dict(sites)
    # A search for each opening, as a single one is asked, would take long for a thousand of them.
    aways = site_fars(case)
    costs = {}
    for houses in chosen:
        ways = [many * min([aways[house][place] for house in houses]) for place, many in folk]
        costs[houses] = sum([charges[house] for house in houses]) + sum(ways)
    return costs
