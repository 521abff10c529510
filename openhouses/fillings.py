"""Folk put into rooms, place by place, others moving on where that costs less."""


class Filling:
    """Who is in which house: of all ways to put these folk into the rooms, one that costs least.

    Rooms are tuples (house, room). Pays is a dict from tuples (place, house), those that may go together, to what each
    of the place's folk pays there.
    """

    def __init__(self, rooms, pays):
        self.pays = pays
        self.spare = dict(rooms)
        self.inside = {house: {} for house, room in rooms}

    def fill(self, place, many):
        """True where so many more of the place's folk found room; False where not all of them did."""
        left = many
        while left > 0:
            routes = self.routes(place)
            ends = [house for house in routes if self.spare[house] > 0]
            if not ends:
                return False
            end = min(ends, key=lambda house: routes[house][0])
            left -= self.send(left, routes, end)
        return True

    def routes(self, place):
        """A dict from all houses that one more of the place's folk can fill to tuples (cost, mover, house).

        The house is the one that the mover, one of a place's folk, leaves to go there, None where the newcomer goes
        there at once. Cost is a tuple of what all pay more then, and how many move: with the fewest moves first no
        route goes in circles, and there are not too many of them, however great the rooms are.
        """
        routes = {house: ((self.pays[place, house], 0), place, None) for house in self.houses_of(place)}
        ahead = list(routes)
        while ahead:
            here = ahead.pop(0)
            (paid, moves), newcomer, before = routes[here]
            for mover in self.inside[here]:
                for house in self.houses_of(mover):
                    cost = (paid + self.pays[mover, house] - self.pays[mover, here], moves + 1)
                    if house not in routes or cost < routes[house][0]:
                        routes[house] = (cost, mover, here)
                        ahead.append(house)
        return routes

    def houses_of(self, place):
        """The list of houses that the place's folk may go to."""
        return [house for house in self.inside if (place, house) in self.pays]

    def send(self, most, routes, end):
        """How many went by the route to the house at its end: at most so many, and as many as it lets."""
        steps = []
        here = end
        while here is not None:
            cost, mover, before = routes[here]
            steps.append((mover, before, here))
            here = before
        many = min([most, self.spare[end]] + [self.inside[out][mover] for mover, out, into in steps[:-1]])
        for mover, out, into in steps[:-1]:
            self.change(out, mover, -many)
        for mover, out, into in steps:
            self.change(into, mover, many)
        self.spare[end] -= many
        return many

    def change(self, house, place, more):
        """So many more of the place's folk are in the house; it isn't there any more where none are left."""
        inside = self.inside[house]
        inside[place] = inside.get(place, 0) + more
        if inside[place] == 0:
            del inside[place]

    def share(self):
        """The sorted list of tuples (place, house, many) of all who are in."""
        return sorted([(place, house, many) for house in self.inside for place, many in self.inside[house].items()])

    def crowd(self, place):
        """The rising list of the places, this one too, whose folk are in the houses that its folk could come to.

        Where none of these has spare room, all who are of these places and found room are in these houses alone.
        """
        return sorted(set([place] + [mover for house in self.routes(place) for mover in self.inside[house]]))

    def price(self, place):
        """What all would pay more for one more of the place's folk, who could go anywhere.

        Where all rooms are full: for a room more where it would be worth least.
        """
        routes = self.routes(place)
        spare = [routes[house][0][0] for house in routes if self.spare[house] > 0]
        return min(spare) if spare else max([routes[house][0][0] for house in routes])


def lack_of(filling, folk):
    """The lack that is met while all of the folk are put in, None where all found room."""
    for place, many in folk:
        if not filling.fill(place, many):
            return filling.crowd(place)
    return None
