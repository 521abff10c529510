"""Exchanges: one house more, one fewer, or one for another; and openings that are bettered by them step by step."""

from openhouses.openings import is_opening
from openhouses.plain import costs_of


def exchanges(case, opening):
    """The sorted list of tuples (exchange, cost), of all exchanges whose outcome is an opening, with what it costs."""
    outcomes = outcomes_of(case, opening)
    costs = costs_of(case, list(outcomes.values()))
    return sorted([(exchange, costs[outcomes[exchange]]) for exchange in outcomes])


def is_settled(case, opening):
    """True where no exchange of the opening costs less than it, else False."""
    return better(case, opening) is None


def bettered(case, opening):
    """The list of openings from this one on, each the outcome of the last one's best exchange, until one is settled."""
    row = [opening]
    following = better(case, opening)
    while following is not None:
        row.append(following)
        following = better(case, following)
    return row


def better(case, opening):
    """The outcome of the exchange of least cost, of several the first as told; None where the opening is settled."""
    outcomes = outcomes_of(case, opening)
    costs = costs_of(case, [opening] + list(outcomes.values()))
    cheaper = [(costs[outcomes[exchange]], exchange) for exchange in outcomes
               if costs[outcomes[exchange]] < costs[opening]]
    return outcomes[min(cheaper)[1]] if cheaper else None


def outcomes_of(case, opening):
    """A dict from all exchanges of the opening whose outcome is an opening to these outcomes."""
    others = [place for place, charge in case[1] if place not in opening]
    outcomes = {("open", site): changed(opening, None, site) for site in others}
    for house in opening:
        outcomes["shut", house] = changed(opening, house, None)
        for site in others:
            outcomes["swap", house, site] = changed(opening, house, site)
    return {exchange: outcomes[exchange] for exchange in outcomes if is_opening(case, outcomes[exchange])}


def changed(opening, out, more):
    """The opening without the house that is out, and with one more, where these aren't None."""
    kept = [house for house in opening if house != out]
    return tuple(sorted(kept if more is None else kept + [more]))
