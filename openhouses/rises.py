"""Prices that rise, step by step, until the sites let none of them rise any more."""

from openhouses.orders import steps


def risen(case, aways, most):
    """Prices by which no site gets more than its most, and no one of which could be 1 more.

    Most is a dict from the places of some sites, one at least, to how much each may get; the other sites aren't asked.
    Aways are as site_fars tells them.
    """
    prices = {place: many * min([aways[site][place] for site in most]) for place, many in case[2]}
    left = dict(most)
    for place, reached, rise in steps(case, aways, list(most)):
        # A site where nothing is left is reached by all later steps of this place, too: its price has stopped for good.
        more = min([left[site] for site in reached])
        if rise is not None:
            more = min(more, rise)
        for site in reached:
            left[site] -= more
        prices[place] += more
    return tuple(prices.items())
