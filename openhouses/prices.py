"""Prices that folk would pay, with a levy: what the sites get by them, whether they stand, and their low."""

from openhouses.fars import fars, site_fars
from openhouses.rows import are_folk_rows
from openhouses.wholes import is_whole_from


def gets(case, prices, site):
    """What the site gets by the prices."""
    return gets_from(case, prices, fars(case[0], site))


def gets_from(case, prices, away):
    """What a site gets by the prices, where away tells how far all places are from it."""
    manys = dict(case[2])
    return sum([max(price - manys[place] * away[place], 0) for place, price in prices])


def stand(case, prices, levy):
    """True where the things are prices and a levy by which no site gets more than its cost and the levy, else False."""
    if not are_prices(case, prices) or not is_levy(case, levy):
        return False
    return stand_by(case, site_fars(case), prices, levy)


def stand_by(case, aways, prices, levy):
    """True where no site gets more than its cost and the levy, else False; aways as site_fars tells them."""
    return all([gets_from(case, prices, aways[place]) <= charge + levy for place, charge in case[1]])


def low(case, prices, levy):
    """The sum of all prices, less limit times levy where there is a limit."""
    limit = case[3]
    total = sum([price for place, price in prices])
    return total if limit is None else total - limit * levy


def is_full(case, prices, levy):
    """True where the prices stand with the levy and none of them could be 1 more, else False."""
    if not stand(case, prices, levy):
        return False
    aways = site_fars(case)
    return not any([stand_by(case, aways, one_more(prices, at), levy) for at in range(len(prices))])


def one_more(prices, at):
    """The prices, the one that stands there 1 more."""
    place, price = prices[at]
    return prices[:at] + ((place, price + 1),) + prices[at + 1:]


def are_prices(case, thing):
    """True where the thing is a tuple of tuples (place, price) for all of the folk's places in order, else False."""
    return are_folk_rows(case, thing) and all([is_whole_from(price, 0) for place, price in thing])


def is_levy(case, thing):
    """True where the thing is a whole number from 0 on, 0 where there is no limit, else False."""
    return is_whole_from(thing, 0) and (case[3] is not None or thing == 0)
