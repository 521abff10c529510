"""How far it is from place to place, and by which path."""

from openhouses.maps import neighbours


def far(web, one, other):
    """The least sum of lengths of ways that lead from the one place to the other."""
    return fars(web, one)[other]


def fars(web, place):
    """A dict from all places to how far they are from this one."""
    told = nearest(web, [place])
    return {name: told[name][0] for name in web[0]}


def site_fars(case):
    """A dict from the places of the case's sites to how far all places are from each of them."""
    return {place: fars(case[0], place) for place, price in case[1]}


def nearest(web, starts):
    """A dict from all places to tuples (far, start): the start that is nearest, of several the first by name."""
    beside = neighbours(web)
    reached = {start: (0, start) for start in starts}
    settled = {}
    while reached:
        (so_far, start), here = min([(reached[name], name) for name in reached])
        # All lengths are above 0, so nothing reached later can come nearer than the nearest.
        del reached[here]
        settled[here] = (so_far, start)
        for name in beside[here]:
            if name not in settled:
                by_here = (so_far + beside[here][name], start)
                reached[name] = min(by_here, reached.get(name, by_here))
    return settled


def path(web, one, other):
    """The first, as lists compare, of the paths of least sum from the one place to the other."""
    beside = neighbours(web)
    left = fars(web, other)
    places = [one]
    # No such path is the beginning of another one, so the least next place each time makes the first path.
    while places[-1] != other:
        places.append(next_place(beside, left, places[-1]))
    return places


def next_place(beside, left, here):
    """The first neighbour by name over which it is no farther than is left from here."""
    return min([name for name in beside[here] if beside[here][name] + left[name] == left[here]])
