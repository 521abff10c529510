"""Prices that rise until the sites let none of them rise any more."""

from openhouses.orders import steps
from openhouses.prices import gets_from


def risen(case, aways, most):
    """Prices by which no site gets more than its most, and no one of which could be 1 more.

    Most is a dict from the places of some sites, one at least, to how much each may get; the other sites aren't asked.
    """
    prices = {place: many * min([aways[site][place] for site in most]) for place, many in case[2]}
    left = dict(most)
    for place, reached, rise in steps(case, aways, list(most)):
        more = min([left[site] for site in reached])
        if rise is not None:
            more = min(more, rise)
        for site in reached:
            left[site] -= more
        prices[place] += more
    return filled(case, aways, most, tuple(prices.items()))


def filled(case, aways, most, prices):
    """The prices, each in turn made as high as the sites still let it be."""
    # The steps may have taken from a site more than it gets, where a price stopped short of a ring and went on later.
    left = {site: most[site] - gets_from(case, prices, aways[site]) for site in most}
    rows = []
    for (place, price), (same, many) in zip(prices, case[2]):
        trips = {site: many * aways[site][place] for site in most}
        highest = min([left[site] + max(price, trips[site]) for site in most])
        for site in most:
            left[site] -= max(highest - trips[site], 0) - max(price - trips[site], 0)
        rows.append((place, highest))
    return tuple(rows)
