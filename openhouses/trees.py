"""Trees and lines among the maps. The root of a tree is its first place."""

from openhouses.maps import came_from, neighbours


def is_tree(web):
    """True where the map has one way fewer than places, else False."""
    places, ways = web
    return len(ways) == len(places) - 1


def is_line(web):
    """True where the map is a tree and no place has more than two ways, else False."""
    beside = neighbours(web)
    return is_tree(web) and all([len(beside[place]) <= 2 for place in beside])


def parent(web, place):
    """The next place on the path to the root, None of the root."""
    # On a tree no place is reached from the root but over its own path, so its parent is what it is reached from.
    return came_from(web)[place]


def children(web, place):
    """The rising list of the places whose parent this one is."""
    parents = came_from(web)
    return [name for name in web[0] if parents[name] == place]


def below(web, place):
    """The rising list of the places on whose path to the root this one stands, itself too."""
    parents = came_from(web)
    found = {place: True}
    # Each place comes here behind its parent, so what stands above it is already found.
    for name in parents:
        if parents[name] in found:
            found[name] = True
    return sorted(found)
