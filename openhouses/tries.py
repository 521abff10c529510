"""Trees of tries, whoever wrote them: for which numbers they hold; then no opening costs less.

They are leaves ("leaf", prices, levy), or splits ("split", site, first, second): first is for the openings with this
site, second for those without.
"""

from openhouses.fars import site_fars
from openhouses.names import is_name
from openhouses.prices import are_prices, gets_from, is_levy, low


def tries_hold(case, number, tree):
    """True where the thing is a tree of tries that holds for the number, else False."""
    return branch_holds(case, site_fars(case), number, tree, (), ())


def branch_holds(case, aways, number, branch, opened, shut):
    """True where the thing is a tree of tries that holds where these sites are open and shut on the way, else False."""
    if is_leaf(branch):
        return leaf_holds(case, aways, number, branch, opened, shut)
    # A site that is split twice ends the search, so it goes no deeper than there are sites, whatever is handed in.
    if not is_split(case, branch) or branch[1] in opened + shut:
        return False
    word, site, first, second = branch
    return (branch_holds(case, aways, number, first, opened + (site,), shut)
            and branch_holds(case, aways, number, second, opened, shut + (site,)))


def is_leaf(thing):
    """True where the thing has the form of a leaf, whatever stands in the place of its prices and levy; else False."""
    return is_tuple_by_word(thing, 3, "leaf")


def is_split(case, thing):
    """True where the thing has the form of a split by a site of the case, whatever its two branches are; else False."""
    return is_tuple_by_word(thing, 4, "split") and is_name(thing[1]) and thing[1] in dict(case[1])


def is_tuple_by_word(thing, many, word):
    """True where the thing is a tuple of so many things that begins with the word, else False."""
    # Whatever thing may stand there: only a text is safely compared with the word.
    return isinstance(thing, tuple) and len(thing) == many and isinstance(thing[0], str) and thing[0] == word


def leaf_holds(case, aways, number, leaf, opened, shut):
    """True where the leaf holds for the number where these sites are open and shut on the way to it, else False."""
    word, prices, levy = leaf
    if no_opening_left(case, opened, shut):
        return True
    if not are_prices(case, prices) or not is_levy(case, levy):
        return False
    over = {place: charge + levy - gets_from(case, prices, aways[place]) for place, charge in case[1]}
    if any([over[place] < 0 for place in over if place not in opened + shut]):
        return False
    return low(case, prices, levy) + sum([over[place] for place in opened]) >= number


def no_opening_left(case, opened, shut):
    """True where more sites are open than the limit lets, or all are shut, so that no opening is to be tried."""
    web, sites, folk, limit = case
    return len(shut) == len(sites) or (limit is not None and len(opened) > limit)
