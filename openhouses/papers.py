"""Prices with a levy, and papers, that are told of a case."""

from openhouses.costs import goings
from openhouses.fars import site_fars
from openhouses.levies import levy_of
from openhouses.openings import openings
from openhouses.plain import costs_of, plain_best
from openhouses.rises import risen


def prices_of(case):
    """A tuple (prices, levy): full ones; on a line, and on a tree without a limit, their low is the best."""
    web, sites, folk, limit = case
    levy = levy_of(limit, costs_of(case, openings((web, sites, folk, None))))
    most = {place: charge + levy for place, charge in sites}
    return (risen(case, site_fars(case), most), levy)


def paper_of(case):
    """A paper that is let by, with such prices and a best opening, so that no exchange betters it."""
    prices, levy = prices_of(case)
    least, opening = plain_best(case)
    ways = tuple([(place, house) for place, house, length in goings(case, opening)])
    return (opening, ways, prices, levy)
