"""The table that is told of a case whose map is a tree, and the best by it."""

from openhouses.floors import Ground, due_at, low_of
from openhouses.maps import came_from


def table_of(case):
    """The list of rows ((place, site, more), number), sorted by their first parts, all numbers due; else NoTree."""
    ground = Ground(case)
    numbers = {}
    # Each place comes there behind its parent, so the other way about it comes behind all of its children.
    for place in reversed(list(came_from(case[0]))):
        numbers.update(due_at(ground, numbers, place))
    return [(first, numbers[first]) for first in sorted(numbers)]


def best_by_table(case):
    """A tuple (cost, opening): the best, and an opening that costs it; else NoTree."""
    web, sites, folk, limit = case
    best = best_cost(case)
    needed = sites
    # While the best stays without some site, some best opening does without it; at the end one takes all that are left.
    for row in sites:
        fewer = tuple([other for other in needed if other != row])
        if fewer and best_cost((web, fewer, folk, limit)) == best:
            needed = fewer
    return (best, tuple([place for place, charge in needed]))


def best_cost(case):
    """The best of the case, by its table."""
    return low_of(case, table_of(case))
