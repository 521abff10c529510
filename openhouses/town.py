"""A town: a case and an opening that change by deeds, which can be taken back."""

from openhouses.costs import cost as cost_of, goings as goings_of
from openhouses.errors import NoBack, NoFolk, NoNumber, NoOpening, NoPlace, NoSite, NoWay
from openhouses.names import is_name
from openhouses.openings import is_opening
from openhouses.wholes import is_whole_from


class Town:
    """A case with an opening, NoOpening where it is none; each deed tells which folk's house or way is another one."""

    def __init__(self, case, opening):
        need_opening(case, opening)
        self.kept = case
        self.houses = opening
        self.past = []

    def come(self, place, many):
        """So many more of the folk live at the place; told are the changes."""
        web, sites, folk, limit = self.kept
        need_place(web, place)
        need_number(many, 1)
        more = dict(folk).get(place, 0) + many
        return self.deed((web, sites, with_number(folk, place, more), limit), self.houses)

    def leave(self, place, many):
        """So many of the folk leave the place; told are the changes."""
        web, sites, folk, limit = self.kept
        need_place(web, place)
        need_number(many, 1)
        left = dict(folk).get(place, 0) - many
        if left < 0:
            raise NoFolk("fewer of the folk live there")
        rows = tuple([row for row in with_number(folk, place, left) if row[1] > 0])
        if not rows:
            raise NoFolk("nobody would be left in the town")
        return self.deed((web, sites, rows, limit), self.houses)

    def length(self, one, other, number):
        """The way between the two places gets this length; told are the changes."""
        web, sites, folk, limit = self.kept
        need_place(web, one)
        need_place(web, other)
        places, ways = web
        ends = (min(one, other), max(one, other))
        if ends not in [way[:2] for way in ways]:
            raise NoWay("there is no way between the two places")
        need_number(number, 1)
        changed = tuple([ends + (number,) if way[:2] == ends else way for way in ways])
        return self.deed(((places, changed), sites, folk, limit), self.houses)

    def charge(self, place, number):
        """The site at the place gets this cost; told are the changes."""
        web, sites, folk, limit = self.kept
        need_site(self.kept, place)
        need_number(number, 0)
        return self.deed((web, with_number(sites, place, number), folk, limit), self.houses)

    def begin(self, place):
        """The site at the place is opened; told are the changes."""
        need_site(self.kept, place)
        # Where it is open already it stands there twice then, which makes no opening.
        return self.deed_of_houses(tuple(sorted(self.houses + (place,))))

    def shut(self, place):
        """The site at the place is shut; told are the changes."""
        need_site(self.kept, place)
        if place not in self.houses:
            raise NoOpening("it isn't open")
        return self.deed_of_houses(tuple([house for house in self.houses if house != place]))

    def back(self):
        """The last deed not yet taken back is taken back; told are the changes."""
        if not self.past:
            raise NoBack("there is no deed to take back")
        case, opening = self.past.pop()
        return self.turned(case, opening)

    def case(self):
        """The town's case."""
        return self.kept

    def opening(self):
        """The town's opening."""
        return self.houses

    def goings(self):
        """The goings of the town's opening."""
        return goings_of(self.kept, self.houses)

    def cost(self):
        """What the town's opening costs."""
        return cost_of(self.kept, self.houses)

    def deed_of_houses(self, opening):
        """The changes by a deed that comes to this opening; NoOpening where it is none."""
        need_opening(self.kept, opening)
        return self.deed(self.kept, opening)

    def deed(self, case, opening):
        """The changes by a deed that comes to this case and opening."""
        self.past.append((self.kept, self.houses))
        return self.turned(case, opening)

    def turned(self, case, opening):
        """The list of tuples (place, ahead, behind) of the places whose house or far is another one by the turn."""
        ahead = self.by_place()
        self.kept = case
        self.houses = opening
        behind = self.by_place()
        return [(place, ahead.get(place), behind.get(place)) for place in case[0][0]
                if ahead.get(place) != behind.get(place)]

    def by_place(self):
        """A dict from the folk's places to tuples (house, far)."""
        return {place: (house, length) for place, house, length in self.goings()}


def with_number(rows, place, number):
    """The rising rows (place, number), with this number at the place."""
    numbers = dict(rows)
    numbers[place] = number
    return tuple(sorted(numbers.items()))


def need_place(web, place):
    """NoPlace where the thing is no place of the map."""
    # Whatever thing may stand here: only a text is safely looked up among the places.
    if not is_name(place) or place not in web[0]:
        raise NoPlace("it is no place of the map")


def need_site(case, place):
    """NoPlace where the thing is no place of the case's map, NoSite where no site is there."""
    need_place(case[0], place)
    if place not in dict(case[1]):
        raise NoSite("no site is at the place")


def need_number(number, least):
    """NoNumber where the thing is no whole number from the least on."""
    if not is_whole_from(number, least):
        raise NoNumber("it is no whole number, or too small")


def need_opening(case, opening):
    """NoOpening where the thing is no opening of the case."""
    if not is_opening(case, opening):
        raise NoOpening("it is no opening")
