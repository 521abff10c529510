"""What the document tells of cases, reckoned another way, so that what the program tells can be held against it."""

import itertools

from openhouses.cases import case_of
from openhouses.maps import map_of
from things import chance_map, chance_tree, small_names, table_of_fars


def site_places(case):
    return [place for place, charge in case[1]]


def all_openings(case):
    """The sorted list of all openings, by each many of houses in turn."""
    most = len(case[1]) if case[3] is None else min(case[3], len(case[1]))
    return sorted(houses for many in range(1, most + 1) for houses in itertools.combinations(site_places(case), many))


def reckoned_cost(case, table, opening):
    """What the opening costs, by looking at all of its houses for each of the folk's places."""
    charges = dict(case[1])
    ways = [many * min([table[place, house] for house in opening]) for place, many in case[2]]
    return sum([charges[house] for house in opening]) + sum(ways)


def reckoned_best(case, table=None):
    """The tuple (cost, opening) of the plain best."""
    table = table or table_of_fars(case[0])
    return min([(reckoned_cost(case, table, opening), opening) for opening in all_openings(case)])


def outcomes(case, opening):
    """All openings that an exchange of this one comes to."""
    inside = set(opening)
    found = []
    for other in all_openings(case):
        more, fewer = set(other) - inside, inside - set(other)
        if len(more) <= 1 and len(fewer) <= 1 and more | fewer:
            found.append(other)
    return found


def reckoned_settled(case, opening, table=None):
    """Whether no exchange of the opening costs less than it."""
    table = table or table_of_fars(case[0])
    here = reckoned_cost(case, table, opening)
    return all([reckoned_cost(case, table, other) >= here for other in outcomes(case, opening)])


def reckoned_gets(case, table, prices, site):
    """What the site gets by the prices."""
    paid = dict(prices)
    total = 0
    for place, many in case[2]:
        if paid[place] > many * table[place, site]:
            total += paid[place] - many * table[place, site]
    return total


def reckoned_stand(case, table, prices, levy):
    """Whether no site gets more than its cost and the levy, of right prices and a right levy."""
    return all([reckoned_gets(case, table, prices, site) <= charge + levy for site, charge in case[1]])


def reckoned_full(case, table, prices, levy):
    """Whether the prices stand and no one of them still does when it is 1 more."""
    raised = [with_price(prices, at, prices[at][1] + 1) for at in range(len(prices))]
    return reckoned_stand(case, table, prices, levy) and not any([
        reckoned_stand(case, table, more, levy) for more in raised])


def reckoned_low(case, prices, levy):
    return sum([price for place, price in prices]) - (0 if case[3] is None else case[3] * levy)


def with_price(prices, at, price):
    """The prices with another one at this row."""
    return tuple([(place, price if at == row else old) for row, (place, old) in enumerate(prices)])


def chance_prices(chance, case, table, levy, full):
    """Prices that stand: each in turn, in any order, as high as can be, or just somewhere up to there."""
    paid = {place: 0 for place, many in case[2]}
    for place, many in chance.sample(case[2], len(case[2])):
        most = min([
            charge + levy - reckoned_gets(case, table, paid, site) + many * table[place, site]
            for site, charge in case[1]])
        paid[place] = most if full else chance.choice((0, most // 2, max(most - 1, 0), most, chance.randint(0, most)))
    return tuple(sorted(paid.items()))


def chance_levy(chance, case, most):
    """A levy for the case: 0 where there is no limit."""
    return 0 if case[3] is None else chance.choice((0, 1, chance.randint(0, most)))


def chance_line(chance, many, most):
    """A line with so many places, in any order, lengths from 1 to most."""
    names = chance.sample(small_names(30), many)
    return map_of(names, [(one, other, chance.randint(1, most)) for one, other in zip(names, names[1:])])


def chance_web(chance, many, most):
    """A line, a tree or a map with rings."""
    return chance.choice((chance_line, chance_tree, chance_map))(chance, many, most)


def even_case(chance, web, most, limits):
    """A case whose sites cost about as much as the ways to them, so that the best has few houses or many."""
    sites = chance.sample(web[0], chance.randint(1, min(10, len(web[0]))))
    folk = [(place, chance.randint(1, chance.choice((1, 3, most)))) for place in
            chance.sample(web[0], chance.randint(1, len(web[0])))]
    table = table_of_fars(web)
    ways = sum([many * max([table[place, site] for site in sites]) for place, many in folk])
    dearest = max(ways // chance.choice((1, 2, 4, 8, 16)), 1)
    charges = [(place, chance.choice((0, chance.randint(0, dearest), chance.randint(0, dearest)))) for place in sites]
    return case_of(web, charges, folk, chance.choice(limits))


def reckoned_leaves(tree, opened=(), shut=()):
    """All leaves of a tree of the right form, each with the sites that are open and shut on the way to it."""
    if tree[0] == "leaf":
        return [(tree, opened, shut)]
    word, site, first, second = tree
    return (reckoned_leaves(first, opened + (site,), shut) + reckoned_leaves(second, opened, shut + (site,)))


def reckoned_leaf_low(case, table, leaf, opened, shut):
    """The low of a leaf with right prices and a right levy; None where some free site gets too much."""
    word, prices, levy = leaf
    for site, charge in case[1]:
        if site not in opened + shut and reckoned_gets(case, table, prices, site) > charge + levy:
            return None
    charges = dict(case[1])
    more = [charges[site] + levy - reckoned_gets(case, table, prices, site) for site in opened]
    return reckoned_low(case, prices, levy) + sum(more)


def reckoned_tree_low(case, table, tree):
    """The greatest number for which the tree holds, None where it holds for none; of right prices and levies."""
    lows = []
    for leaf, opened, shut in reckoned_leaves(tree):
        over = case[3] is not None and len(opened) > case[3]
        if not over and len(shut) < len(case[1]):
            lows.append(reckoned_leaf_low(case, table, leaf, opened, shut))
    return None if None in lows else min(lows)


def reckoned_parents(web):
    """A dict from each place of a tree to its parent, None of the root, by how far all are from each other."""
    table, root = table_of_fars(web), web[0][0]
    parents = {root: None}
    for one, other, length in web[1]:
        lower, upper = (one, other) if table[root, one] > table[root, other] else (other, one)
        parents[lower] = upper
    return parents


def reckoned_below(parents, place):
    """All places on whose path to the root this one stands."""
    found = []
    for name in parents:
        here = name
        while here is not None and here != place:
            here = parents[here]
        if here == place:
            found.append(name)
    return found


def at_least(numbers):
    """The least of the numbers, None being greater than each."""
    told = [number for number in numbers if number is not None]
    return min(told) if told else None


def together(numbers):
    """The sum of the numbers, None with None."""
    return None if None in numbers else sum(numbers)


class Reckoned:
    """The numbers that are due of a case on a tree, just as [15] tells them, all tuples of n tried."""

    def __init__(self, case):
        self.case = case
        self.table = table_of_fars(case[0])
        self.parents = reckoned_parents(case[0])
        self.below = {place: reckoned_below(self.parents, place) for place in self.parents}
        self.mores = len(case[1]) if case[3] is None else min(case[3], len(case[1]))

    def children(self, place):
        return [name for name in self.parents if self.parents[name] == place]

    def begun(self, numbers, place, many):
        if many == 0:
            return None
        return at_least([
            together([charge, numbers[place, site, many - 1]]) for site, charge in self.case[1]
            if site in self.below[place]])

    def handed(self, numbers, child, site, many):
        number = numbers[child, site, many]
        if site in self.below[child]:
            return number
        return at_least([number, self.begun(numbers, child, many)])

    def due(self, numbers, place, site, more):
        own = dict(self.case[2]).get(place, 0) * self.table[place, site]
        children = self.children(place)
        sums = [
            together([self.handed(numbers, child, site, many) for child, many in zip(children, manys)])
            for manys in itertools.product(range(more + 1), repeat=len(children)) if sum(manys) == more]
        return together([own, at_least(sums)])

    def rows(self):
        """The first parts of all rows, sorted."""
        return sorted(itertools.product(self.case[0][0], site_places(self.case), range(self.mores)))

    def upwards(self):
        """The places, each behind all of its children."""
        return sorted(self.case[0][0], key=lambda place: len(self.below[place]))

    def lowered(self, numbers):
        """The numbers, from below upwards none greater than what is due then; those that are not there are due."""
        told = {}
        for place in self.upwards():
            for first in [first for first in self.rows() if first[0] == place]:
                due = self.due(told, *first)
                told[first] = at_least([numbers[first], due]) if first in numbers else due
        return told

    def hold(self, numbers):
        """Whether no number is greater than the one that is due."""
        return all([at_least([numbers[first], self.due(numbers, *first)]) == numbers[first] for first in self.rows()])

    def low(self, numbers):
        root = self.case[0][0][0]
        return at_least([self.begun(numbers, root, many) for many in range(1, self.mores + 1)])


def rows_from(numbers):
    """The table of these numbers."""
    return [(first, numbers[first]) for first in sorted(numbers)]


def reckoned_near(table, far, place, house):
    return far is None or table[place, house] <= far


def reckoned_is_share(case, table, rooms, far, rows):
    """Whether the rows, of the right form, are a share: each condition by itself."""
    houses = [house for house, room in rooms]
    folk = [place for place, many in case[2]]
    pairs = [(place, house) for place, house, many in rows]
    return (
        rows == sorted(rows) and len(set(pairs)) == len(pairs)
        and all([place in folk and house in houses and many >= 1 for place, house, many in rows])
        and all([reckoned_near(table, far, place, house) for place, house in pairs])
        and all([sum([many for at, house, many in rows if at == place]) == all_there for place, all_there in case[2]])
        and all([sum([many for place, at, many in rows if at == house]) <= room for house, room in rooms]))


def reckoned_lacks(case, table, rooms, far):
    """All lacks, by looking at each set of the folk's places."""
    found = []
    for many in range(1, len(case[2]) + 1):
        for chosen in itertools.combinations(case[2], many):
            room = sum([room for house, room in rooms
                        if any([reckoned_near(table, far, place, house) for place, number in chosen])])
            if sum([number for place, number in chosen]) > room:
                found.append([place for place, number in chosen])
    return found


def reckoned_shares(case, table, rooms, far):
    """All shares, by each way to spread each place's folk over the houses."""
    houses = [house for house, room in rooms]

    def spread(many, left):
        if left == 1:
            return [(many,)]
        return [(first,) + rest for first in range(many + 1) for rest in spread(many - first, left - 1)]

    found = []
    for chosen in itertools.product(*[spread(many, len(houses)) for place, many in case[2]]):
        rows = [(place, house, number) for (place, many), numbers in zip(case[2], chosen)
                for house, number in zip(houses, numbers) if number]
        if reckoned_is_share(case, table, rooms, far, rows):
            found.append(rows)
    return found


def share_cost(table, share):
    return sum([many * table[place, house] for place, house, many in share])


def chance_rooms(chance, case, opening):
    """Rooms of the opening: all too few, just enough, a little more, or plenty; some of them 0."""
    total = sum([many for place, many in case[2]])
    cuts = [0] + sorted([chance.randint(0, total) for house in opening[1:]]) + [total]
    parts = [behind - ahead for ahead, behind in zip(cuts, cuts[1:])]
    rooms = chance.choice((
        parts,
        [part + chance.randint(0, 1) for part in parts],
        [max(part - chance.randint(0, 1), 0) for part in parts],
        [chance.randint(0, total) for house in opening],
        [chance.choice((0, total // 2, total)) for house in opening],
        [total] * len(opening),
        [total // len(opening) + 1] * len(opening),
    ))
    return tuple(zip(opening, rooms))
