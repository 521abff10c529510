"""The best of a case, with a tree of tries that shows it."""

from openhouses.fars import site_fars
from openhouses.levies import levy_of
from openhouses.openings import openings
from openhouses.plain import costs_of, plain_best
from openhouses.rises import risen
from openhouses.tries import leaf_holds


def best_of(case):
    """A tuple of the best, the first opening that costs it, and a tree of tries that holds for it."""
    web, sites, folk, limit = case
    least, opening = plain_best(case)
    costs = costs_of(case, openings((web, sites, folk, None)))
    return (least, opening, grown(case, site_fars(case), least, costs, (), ()))


def grown(case, aways, best, costs, opened, shut):
    """A tree of tries that holds for the best where these sites are open and shut on the way to it.

    Costs is a dict from all openings with the open sites and without the shut ones, whatever the limit, to what they
    cost. Where no site is free, or one alone and none open, or as many are open as the limit lets, the leaf's low is
    what some opening costs; so it holds, and each way of the tree ends before there is nothing left to be tried.
    """
    leaf = leaf_of(case, aways, costs, opened, shut)
    if leaf_holds(case, aways, best, leaf, opened, shut):
        return leaf
    site = min([place for place, charge in case[1] if place not in opened + shut])
    with_it = {houses: costs[houses] for houses in costs if site in houses}
    without = {houses: costs[houses] for houses in costs if site not in houses}
    first = grown(case, aways, best, with_it, opened + (site,), shut)
    second = grown(case, aways, best, without, opened, shut + (site,))
    return ("split", site, first, second)


def leaf_of(case, aways, costs, opened, shut):
    """A leaf with prices that rise by the sites that are not shut, the open ones getting nothing."""
    web, sites, folk, limit = case
    # Where no more houses may be opened, the levy keeps the free sites from holding any price down.
    levy = max(costs.values()) if len(opened) == limit else levy_of(limit, costs)
    most = {place: 0 if place in opened else charge + levy for place, charge in sites if place not in shut}
    return ("leaf", risen(case, aways, most), levy)
