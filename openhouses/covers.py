"""The worst way: as few sites within so far of all folk as can be, and folk none two of whom one site serves."""

from openhouses.errors import NoCover
from openhouses.fars import site_fars
from openhouses.names import are_rising
from openhouses.openings import openings


def cover_within(case, far):
    """A tuple (cover, apart): the first cover of the fewest sites, the first apart list of the most places.

    NoCover where no sites serve all of the folk's places within the far.
    """
    served = served_within(case, far)
    return (first_cover(case, served), first_apart(served))


def is_cover(case, far, thing):
    """True where the thing is a rising list of sites' places that serve all of the folk's places, else False."""
    if not isinstance(thing, list) or not are_rising(thing):
        return False
    sites = dict(case[1])
    return all([site in sites for site in thing]) and serve_all(served_within(case, far), thing)


def is_apart(case, far, thing):
    """True where the thing is a rising list of folk's places, no two of which one site serves, else False."""
    if not isinstance(thing, list) or not are_rising(thing):
        return False
    served = served_within(case, far)
    if not all([place in served for place in thing]):
        return False
    serving = [site for place in thing for site in served[place]]
    return len(set(serving)) == len(serving)


def least_far(case, many):
    """A tuple (far, cover): the least far within which so many sites, or fewer, are a cover, and the one told then."""
    web, sites, folk, limit = case
    aways = site_fars(case)
    far = min([worst_way(aways, folk, houses) for houses in openings((web, sites, folk, many))])
    return (far, first_cover(case, served_within(case, far)))


def worst_way(aways, folk, houses):
    """How far it is from the folk's place that is farthest from its nearest house."""
    return max([min([aways[house][place] for house in houses]) for place, many in folk])


def served_within(case, far):
    """A dict from the folk's places to the lists of sites that serve them."""
    aways = site_fars(case)
    return {place: [site for site in aways if aways[site][place] <= far] for place, many in case[2]}


def serve_all(served, sites):
    """True where each place is served by one of the sites at least, else False."""
    return all([any([site in sites for site in served[place]]) for place in served])


def first_cover(case, served):
    """The first cover of those with the fewest sites, else NoCover."""
    web, sites, folk, limit = case
    covers = [houses for houses in openings((web, sites, folk, None)) if serve_all(served, houses)]
    if not covers:
        raise NoCover("some of the folk's places are served by no site")
    return list(min(covers, key=lambda houses: (len(houses), houses)))


def first_apart(served):
    """The first apart list of those with the most places, where each place is served by one site at least."""
    # Apart lists of later places that the same sites serve go with the same earlier places: one of them is enough.
    best = {(): []}
    for place in reversed(list(served)):
        for taken in list(best):
            if not any([site in taken for site in served[place]]):
                together = tuple(sorted(taken + tuple(served[place])))
                best[together] = longer([place] + best[taken], best.get(together, []))
    found = []
    for taken in best:
        found = longer(best[taken], found)
    return found


def longer(one, other):
    """The longer one of both lists; of two as long the first as lists compare."""
    return min(one, other, key=lambda names: (-len(names), names))
