"""What the document tells of cases, reckoned another way, so that what the program tells can be held against it."""

import itertools

from openhouses.cases import case_of
from openhouses.maps import map_of
from things import chance_map, chance_tree, small_names, table_of_fars


def site_places(case):
    return [place for place, charge in case[1]]


def all_openings(case):
    """The sorted list of all openings, by each many of houses in turn."""
    most = len(case[1]) if case[3] is None else min(case[3], len(case[1]))
    return sorted(houses for many in range(1, most + 1) for houses in itertools.combinations(site_places(case), many))


def reckoned_cost(case, table, opening):
    """What the opening costs, by looking at all of its houses for each of the folk's places."""
    charges = dict(case[1])
    ways = [many * min([table[place, house] for house in opening]) for place, many in case[2]]
    return sum([charges[house] for house in opening]) + sum(ways)


def reckoned_best(case, table=None):
    """The tuple (cost, opening) of the plain best."""
    table = table or table_of_fars(case[0])
    return min([(reckoned_cost(case, table, opening), opening) for opening in all_openings(case)])


def outcomes(case, opening):
    """All openings that an exchange of this one comes to."""
    inside = set(opening)
    found = []
    for other in all_openings(case):
        more, fewer = set(other) - inside, inside - set(other)
        if len(more) <= 1 and len(fewer) <= 1 and more | fewer:
            found.append(other)
    return found


def reckoned_settled(case, opening, table=None):
    """Whether no exchange of the opening costs less than it."""
    table = table or table_of_fars(case[0])
    here = reckoned_cost(case, table, opening)
    return all([reckoned_cost(case, table, other) >= here for other in outcomes(case, opening)])


def reckoned_gets(case, table, prices, site):
    """What the site gets by the prices."""
    paid = dict(prices)
    total = 0
    for place, many in case[2]:
        if paid[place] > many * table[place, site]:
            total += paid[place] - many * table[place, site]
    return total


def reckoned_stand(case, table, prices, levy):
    """Whether no site gets more than its cost and the levy, of right prices and a right levy."""
    return all([reckoned_gets(case, table, prices, site) <= charge + levy for site, charge in case[1]])


def reckoned_full(case, table, prices, levy):
    """Whether the prices stand and no one of them still does when it is 1 more."""
    raised = [with_price(prices, at, prices[at][1] + 1) for at in range(len(prices))]
    return reckoned_stand(case, table, prices, levy) and not any([
        reckoned_stand(case, table, more, levy) for more in raised])


def reckoned_low(case, prices, levy):
    return sum([price for place, price in prices]) - (0 if case[3] is None else case[3] * levy)


def with_price(prices, at, price):
    """The prices with another one at this row."""
    return tuple([(place, price if at == row else old) for row, (place, old) in enumerate(prices)])


def chance_prices(chance, case, table, levy, full):
    """Prices that stand: each in turn, in any order, as high as can be, or just somewhere up to there."""
    paid = {place: 0 for place, many in case[2]}
    for place, many in chance.sample(case[2], len(case[2])):
        most = min([
            charge + levy - reckoned_gets(case, table, paid, site) + many * table[place, site]
            for site, charge in case[1]])
        paid[place] = most if full else chance.choice((0, most // 2, max(most - 1, 0), most, chance.randint(0, most)))
    return tuple(sorted(paid.items()))


def chance_levy(chance, case, most):
    """A levy for the case: 0 where there is no limit."""
    return 0 if case[3] is None else chance.choice((0, 1, chance.randint(0, most)))


def chance_line(chance, many, most):
    """A line with so many places, in any order, lengths from 1 to most."""
    names = chance.sample(small_names(30), many)
    return map_of(names, [(one, other, chance.randint(1, most)) for one, other in zip(names, names[1:])])


def chance_web(chance, many, most):
    """A line, a tree or a map with rings."""
    return chance.choice((chance_line, chance_tree, chance_map))(chance, many, most)


def even_case(chance, web, most, limits):
    """A case whose sites cost about as much as the ways to them, so that the best has few houses or many."""
    sites = chance.sample(web[0], chance.randint(1, min(10, len(web[0]))))
    folk = [(place, chance.randint(1, chance.choice((1, 3, most)))) for place in
            chance.sample(web[0], chance.randint(1, len(web[0])))]
    table = table_of_fars(web)
    ways = sum([many * max([table[place, site] for site in sites]) for place, many in folk])
    dearest = max(ways // chance.choice((1, 2, 4, 8, 16)), 1)
    charges = [(place, chance.choice((0, chance.randint(0, dearest), chance.randint(0, dearest)))) for place in sites]
    return case_of(web, charges, folk, chance.choice(limits))
