"""Tables on trees, whoever wrote them: whether they hold, and their low; then no opening costs less.

By the numbers of a table, (place, site, more) is what the folk below the place pay, with the other houses begun below
it, so many of them, where the place goes to the site. None is greater than each number.
"""

from openhouses.errors import NoTree
from openhouses.fars import site_fars
from openhouses.names import is_name
from openhouses.openings import most_houses
from openhouses.trees import below, children, is_tree
from openhouses.wholes import is_whole, is_whole_from


class Ground:
    """What the tables of a case stand on; NoTree where its map is no tree."""

    def __init__(self, case):
        web, sites, folk, limit = case
        if not is_tree(web):
            raise NoTree("a table is asked of a map that is no tree")
        manys = dict(folk)
        aways = site_fars(case)
        self.places = web[0]
        self.charges = dict(sites)
        self.mores = most_houses(case)
        self.beneath = {place: children(web, place) for place in web[0]}
        self.sites_below = {place: [name for name in below(web, place) if name in self.charges] for place in web[0]}
        self.trips = {(place, site): manys.get(place, 0) * aways[site][place] for place in web[0] for site in aways}


def holds(case, table):
    """True where the thing is a table of the case, and no number is greater than the one that is due; else False."""
    ground = Ground(case)
    if not is_table(ground, table):
        return False
    numbers = dict(table)
    for place in ground.places:
        due = due_at(ground, numbers, place)
        if not all([is_at_most(numbers[first], due[first]) for first in due]):
            return False
    return True


def low_of(case, table):
    """The low of a table that holds: the least of what is begun of the root."""
    ground = Ground(case)
    return least(begun(ground, dict(table), ground.places[0]))


def is_table(ground, thing):
    """True where the thing is a list of all rows in order, each with a number from 0 on or None; else False."""
    firsts = first_parts(ground)
    if not isinstance(thing, list) or len(thing) != len(firsts):
        return False
    return all([is_row(row, first) for row, first in zip(thing, firsts)])


def first_parts(ground):
    """The sorted list of the first parts (place, site, more) of a table's rows."""
    return [(place, site, more) for place in ground.places for site in ground.charges for more in range(ground.mores)]


def is_row(row, first):
    """True where the row is a tuple of this first part and a number from 0 on or None, else False."""
    if not isinstance(row, tuple) or len(row) != 2 or not is_first_part(row[0]) or row[0] != first:
        return False
    return row[1] is None or is_whole_from(row[1], 0)


def is_first_part(thing):
    """True where the thing is a tuple of two names and a whole number, else False."""
    if not isinstance(thing, tuple) or len(thing) != 3:
        return False
    # Whatever thing may stand there: only these are safely compared with a first part.
    return is_name(thing[0]) and is_name(thing[1]) and is_whole(thing[2])


def due_at(ground, numbers, place):
    """A dict from all first parts of the place to the numbers that are due, by those of its children."""
    fresh = {child: begun(ground, numbers, child) for child in ground.beneath[place]}
    due = {}
    for site in ground.charges:
        sums = [ground.trips[place, site]] + [None] * (ground.mores - 1)
        for child in ground.beneath[place]:
            sums = shared(sums, handed(ground, numbers, child, site, fresh[child]))
        for more, number in enumerate(sums):
            due[place, site, more] = number
    return due


def begun(ground, numbers, place):
    """The list of begun(place, n) for n from 0 on to how many mores there are."""
    sites = ground.sites_below[place]
    told = [least([plus(ground.charges[site], numbers[place, site, more]) for site in sites])
            for more in range(ground.mores)]
    return [None] + told


def handed(ground, numbers, child, site, fresh):
    """The list of handed(child, site, n) for each n, where fresh is what is begun of the child."""
    told = [numbers[child, site, more] for more in range(ground.mores)]
    if site in ground.sites_below[child]:
        return told
    return [least([number, other]) for number, other in zip(told, fresh)]


def shared(sums, more_sums):
    """For each many the least sum of one number out of each of both lists, the manys of both together so many."""
    return [least([plus(sums[many - n], more_sums[n]) for n in range(many + 1)]) for many in range(len(sums))]


def plus(one, other):
    """The sum of both, None with None."""
    return None if one is None or other is None else one + other


def least(numbers):
    """The least of the numbers that are not None, None where there are none."""
    return min([number for number in numbers if number is not None], default=None)


def is_at_most(number, due):
    """True where the number is not greater than the one that is due, None being greater than each."""
    return due is None or (number is not None and number <= due)
