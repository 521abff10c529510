"""The order in which prices rise; on a tree it makes their sum as great as can be.

Around each of the folk's places the sites lie in rings, one for each far. A step is one ring of one place: from where
the price just reaches the sites of this ring to where it reaches those of the next one. The top of a step is the spot
as far from the place as the ring, on the way to the root and straight on beyond it. Steps with lower tops come first.

On a tree, let two sites be reached by a step, and the one that is deeper by a later step, too: then this reaches the
other one as well. So what a step leaves at its shallowest sites serves all later ones that it stands in the way of,
and to rise at each step as far as can be is best (Hoffman, Kolen and Sakarovitch, on greedy matrices).
"""

from openhouses.fars import fars


def steps(case, aways, chosen):
    """The list of steps in order, as tuples (place, reached, rise), by the chosen sites alone.

    Reached are the sites no farther than the ring; rise is how much the price rises up to the next ring, None from the
    last one on. Aways are as site_fars tells them.
    """
    web, sites, folk, limit = case
    depths = fars(web, web[0][0])
    found = []
    for place, many in folk:
        rings = sorted({aways[site][place] for site in chosen})
        for ring, beyond in zip(rings, rings[1:] + [None]):
            reached = [site for site in chosen if aways[site][place] <= ring]
            rise = None if beyond is None else many * (beyond - ring)
            found.append((ring - depths[place], place, reached, rise))
    in_order = sorted(found, key=lambda step: step[0])
    return [(place, reached, rise) for height, place, reached, rise in in_order]
