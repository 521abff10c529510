"""The checker of papers (opening, goings, prices, levy), whoever wrote them."""

from openhouses.costs import houses_cost
from openhouses.fars import site_fars
from openhouses.names import is_name
from openhouses.openings import is_opening
from openhouses.prices import low, stand
from openhouses.rows import are_folk_rows


def lets_by(case, paper):
    """True where the thing is a paper of the case whose prices with its levy stand, else False."""
    if not isinstance(paper, tuple) or len(paper) != 4:
        return False
    opening, ways, prices, levy = paper
    return is_opening(case, opening) and are_goings(case, opening, ways) and stand(case, prices, levy)


def are_goings(case, opening, thing):
    """True where the thing is a tuple of tuples (place, open house) for the folk's places in order, else False."""
    # Whatever thing may stand in the place of a house: only a text is safely looked up in the opening.
    return are_folk_rows(case, thing) and all([is_name(house) and house in opening for place, house in thing])


def span(case, paper):
    """A tuple (low, high) of a paper that is let by: no opening costs less than low, its own no more than high."""
    opening, ways, prices, levy = paper
    manys = dict(case[2])
    aways = site_fars(case)
    high = houses_cost(case, opening) + sum([manys[place] * aways[house][place] for place, house in ways])
    return (low(case, prices, levy), high)
