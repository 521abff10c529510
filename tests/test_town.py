"""[22] A town and its deeds; [3] as far as it speaks of towns; and [2] of these."""

import copy
import random
import unittest

from openhouses.cases import case_of
from openhouses.costs import cost, goings
from openhouses.errors import HouseError, NoBack, NoFolk, NoNumber, NoOpening, NoPlace, NoSite, NoWay
from openhouses.maps import map_of
from openhouses.openings import openings
from openhouses.town import Town
from reckoned import all_openings, chance_web, even_case
from things import line_ways, nested, odd_things, shown, small_names, table_of_fars, within

GREAT = 10 ** 30 - 1
# A ring a b c d e with ways of 2, 3, 4, 5 and 6.
WEB = map_of(list("abcde"), [("a", "b", 2), ("b", "c", 3), ("c", "d", 4), ("d", "e", 5), ("a", "e", 6)])
SITES = [("a", 1), ("c", 0), ("d", 7)]
FOLK = [("a", 3), ("b", 1), ("d", 2)]


def case_with(limit):
    return case_of(WEB, SITES, FOLK, limit)


def town_with(limit=None, opening=("a", "c")):
    return Town(case_with(limit), opening)


def state(town):
    """All that the town tells of itself."""
    return (town.case(), town.opening(), town.goings(), town.cost())


def homes(case, opening):
    """A dict from the folk's places to their (house, far), by looking at all houses."""
    table = table_of_fars(case[0])
    found = {}
    for place, many in case[2]:
        length, house = min([(table[place, house], house) for house in opening])
        found[place] = (house, length)
    return found


def changes(ahead, behind):
    """What shall be told of a change from one (case, opening) to another."""
    one, other = homes(*ahead), homes(*behind)
    return [(place, one.get(place), other.get(place)) for place in sorted(set(one) | set(other))
            if one.get(place) != other.get(place)]


def is_number(thing, least):
    return type(thing) is int and thing >= least


def expected(case, opening, deed):
    """What the deed comes to: (case, opening), or the refusal that is due, by the order of [22]."""
    web, sites, folk, limit = case
    word, *things = deed
    sites, folk, lengths = dict(sites), dict(folk), {frozenset(way[:2]): way for way in web[1]}
    places = things[:2] if word == "length" else things[:1]
    if not all([type(place) is str and place in web[0] for place in places]):
        return NoPlace
    if word == "length" and frozenset(places) not in lengths:
        return NoWay
    if word in ("charge", "begin", "shut") and places[0] not in sites:
        return NoSite
    if word not in ("begin", "shut") and not is_number(things[-1], 0 if word == "charge" else 1):
        return NoNumber
    number, houses = things[-1], set(opening)
    if word == "come":
        folk[places[0]] = folk.get(places[0], 0) + number
    elif word == "leave":
        if folk.get(places[0], 0) < number or sum(folk.values()) == number:
            return NoFolk
        folk[places[0]] -= number
        folk = {place: many for place, many in folk.items() if many}
    elif word == "length":
        lengths[frozenset(places)] = (places[0], places[1], number)
    elif word == "charge":
        sites[places[0]] = number
    elif word == "begin":
        if places[0] in houses or len(houses) == limit:
            return NoOpening
        houses.add(places[0])
    else:
        if places[0] not in houses or len(houses) == 1:
            return NoOpening
        houses.remove(places[0])
    made = case_of(map_of(web[0], list(lengths.values())), list(sites.items()), list(folk.items()), limit)
    return made, tuple(sorted(houses))


def do(town, deed):
    word, *things = deed
    return getattr(town, word)(*things)


def chance_deed(chance, case, opening):
    """A deed that is mostly right, sometimes refused, sometimes changes nothing."""
    web, sites, folk, limit = case
    names = list(web[0])
    word = chance.choice(("come", "leave", "length", "charge", "begin", "shut"))
    most = chance.choice((1, 3, 20, GREAT))
    place = chance.choice(names + [chance.choice(folk)[0]] * 3 + ["q"])
    if word == "come":
        return (word, place, chance.choice((0, chance.randint(1, most))))
    if word == "leave":
        there = dict(folk).get(place, 1)
        return (word, place, chance.choice((0, 1, there, there, there + 1, chance.randint(1, there))))
    if word == "length":
        one, other, length = chance.choice(web[1] + (("a", "q", 1),))
        one, other = chance.choice(((one, other), (other, one), (one, chance.choice(names))))
        return (word, one, other, chance.choice((0, length, chance.randint(1, most), chance.randint(1, most))))
    site = chance.choice([place] + [place for place, charge in sites] * 3)
    if word == "charge":
        return (word, site, chance.choice((0, -1, chance.randint(0, most), dict(sites).get(site, 0))))
    return (word, site)


class Told(unittest.TestCase):
    def check(self, town, deed):
        """The town does the deed just as a town made anew tells it."""
        before = copy.deepcopy(state(town))
        due = expected(town.case(), town.opening(), deed)
        if isinstance(due, type):
            self.refused(town, deed, due)
            return False
        told = do(town, deed)
        self.assertIs(type(told), list)
        self.assertEqual(told, changes(before[:2], due), shown((before, deed)))
        self.assertEqual((town.case(), town.opening()), due)
        self.made_anew(town)
        return True

    def made_anew(self, town):
        """It tells of itself what one made anew tells."""
        self.assertEqual(state(town), state(Town(town.case(), town.opening())))
        self.assertEqual(town.goings(), goings(town.case(), town.opening()))
        self.assertEqual(town.cost(), cost(town.case(), town.opening()))
        self.assertEqual(town.case(), case_of(*town.case()))

    def refused(self, town, deed, refusal):
        """It is refused so, and nothing is changed."""
        before = copy.deepcopy(state(town))
        with self.assertRaises(HouseError, msg=shown(deed)) as caught:
            do(town, deed)
        self.assertIs(type(caught.exception), refusal, shown(deed))
        self.assertEqual(state(town), before)


class Made(Told):
    def test_keeps_the_case_and_the_opening(self):
        for limit in (None, 2, 3, GREAT):
            for opening in openings(case_with(limit)):
                town = Town(case_with(limit), opening)
                self.assertEqual((town.case(), town.opening()), (case_with(limit), opening))
                self.assertEqual(town.goings(), goings(case_with(limit), opening))
                self.assertEqual(town.cost(), cost(case_with(limit), opening))
                self.assertEqual([type(part) for part in state(town)], [tuple, tuple, list, int])

    def test_of_what_makes_no_opening(self):
        things = odd_things() + [
            "", "a", "ac", 1, ("c", "a"), ["a", "c"], ("a", "a"), ("b",), ("a", "b"), ("a", "q"), ("A",), ("a", "c", "d", "e"),
            (("a", "c"),), {"a": 1}, ("a", None), (None,), (True,), b"a"]
        for thing in things:
            if type(thing) is tuple and thing == ("a",):
                continue
            with self.assertRaises(NoOpening, msg=shown(thing)):
                Town(case_with(None), thing)
            if not (type(thing) is str and thing in ("a", "c", "d")):
                with self.assertRaises(NoOpening, msg=shown(thing)):
                    Town(case_with(None), (thing,))

    def test_of_one_more_than_the_limit(self):
        for limit in (1, 2):
            for opening in openings(case_with(None)):
                if len(opening) > limit:
                    with self.assertRaises(NoOpening):
                        Town(case_with(limit), opening)


class Deeds(Told):
    def test_folk_come_where_some_live_already(self):
        town = town_with()
        self.assertEqual(town.come("b", 4), [])
        self.assertEqual(town.case(), case_of(WEB, SITES, [("a", 3), ("b", 5), ("d", 2)], None))
        self.assertEqual(town.come("a", GREAT), [])
        self.assertEqual(dict(town.case()[2])["a"], GREAT + 3)
        self.made_anew(town)

    def test_folk_come_where_none_live(self):
        town = town_with()
        self.assertEqual(town.come("e", 4), [("e", None, ("a", 6))])
        self.assertEqual(town.case(), case_of(WEB, SITES, FOLK + [("e", 4)], None))
        self.assertEqual(town.come("c", 1), [("c", None, ("c", 0))])
        self.assertEqual([place for place, many in town.case()[2]], list("abcde"))
        self.made_anew(town)

    def test_some_leave(self):
        town = town_with()
        self.assertEqual(town.leave("a", 2), [])
        self.assertEqual(town.case(), case_of(WEB, SITES, [("a", 1), ("b", 1), ("d", 2)], None))
        self.made_anew(town)

    def test_all_folk_of_a_place_leave(self):
        town = town_with()
        self.assertEqual(town.leave("d", 2), [("d", ("c", 4), None)])
        self.assertEqual(town.case(), case_of(WEB, SITES, [("a", 3), ("b", 1)], None))
        self.assertEqual(town.leave("a", 3), [("a", ("a", 0), None)])
        self.assertEqual(town.goings(), [("b", "a", 2)])
        self.made_anew(town)

    def test_a_way_gets_another_length(self):
        # b goes to a, 2 away, or to c, 3 away: of two as near a is the first.
        for one, other in (("a", "b"), ("b", "a")):
            town = town_with()
            self.assertEqual(town.length(one, other, 3), [("b", ("a", 2), ("a", 3))])
            self.assertEqual(town.length(one, other, 4), [("b", ("a", 3), ("c", 3))])
            self.assertEqual(town.length(one, other, GREAT), [])
            self.assertEqual(town.length(one, other, 1), [("b", ("c", 3), ("a", 1))])
            self.assertEqual(town.case()[0][1][0], ("a", "b", 1))
            self.made_anew(town)

    def test_a_way_over_which_several_go(self):
        town = town_with(None, ("a",))
        self.assertEqual(town.goings(), [("a", "a", 0), ("b", "a", 2), ("d", "a", 9)])
        self.assertEqual(town.length("b", "a", 5), [("b", ("a", 2), ("a", 5)), ("d", ("a", 9), ("a", 11))])
        self.assertEqual(town.length("c", "d", 1), [("d", ("a", 11), ("a", 9))])
        self.made_anew(town)

    def test_a_site_gets_another_cost(self):
        town = town_with()
        before = town.cost()
        self.assertEqual(town.charge("c", 10), [])
        self.assertEqual(town.cost(), before + 10)
        self.assertEqual(town.charge("d", GREAT), [])
        self.assertEqual(town.cost(), before + 10)
        self.assertEqual(town.charge("a", 0), [])
        self.assertEqual(town.cost(), before + 9)
        self.assertEqual(town.case(), case_of(WEB, [("a", 0), ("c", 10), ("d", GREAT)], FOLK, None))
        self.made_anew(town)

    def test_a_site_is_opened_and_shut(self):
        town = town_with()
        self.assertEqual(town.begin("d"), [("d", ("c", 4), ("d", 0))])
        self.assertEqual(town.opening(), ("a", "c", "d"))
        self.assertEqual(town.shut("a"), [("a", ("a", 0), ("c", 5)), ("b", ("a", 2), ("c", 3))])
        self.assertEqual(town.opening(), ("c", "d"))
        self.assertEqual(town.shut("c"), [("a", ("c", 5), ("d", 9)), ("b", ("c", 3), ("d", 7))])
        self.assertEqual(town.begin("a"), [("a", ("d", 9), ("a", 0)), ("b", ("d", 7), ("a", 2))])
        self.assertEqual(town.opening(), ("a", "d"))
        self.made_anew(town)

    def test_a_house_as_near_that_goes_ahead_by_name(self):
        web = map_of(list("abc"), line_ways("abc", 4))
        town = Town(case_of(web, [("a", 1), ("c", 1)], [("b", 1)], 2), ("c",))
        self.assertEqual(town.begin("a"), [("b", ("c", 4), ("a", 4))])
        self.assertEqual(town.shut("c"), [])
        self.assertEqual(town.begin("c"), [])

    def test_a_deed_that_changes_nothing_is_one(self):
        for deed in (("length", "a", "b", 2), ("length", "e", "a", 6), ("charge", "a", 1), ("charge", "c", 0)):
            town = town_with()
            before = state(town)
            self.assertEqual(do(town, deed), [])
            self.assertEqual(state(town), before)
            self.assertEqual(town.back(), [])
            self.assertEqual(state(town), before)
            self.refused(town, ("back",), NoBack)

    def test_chance_deeds(self):
        chance = random.Random(220)
        done = {True: 0, False: 0}
        moved = 0
        for turn in range(60):
            most = chance.choice((1, 3, 9, GREAT))
            case = even_case(chance, chance_web(chance, chance.randint(2, 8), most), most, (None, 1, 2, 3, 11))
            town = Town(case, chance.choice(all_openings(case)))
            past = []
            for step in range(25):
                if chance.random() < 0.2:
                    self.goes_back(town, past)
                else:
                    before = (town.case(), town.opening())
                    right = self.check(town, chance_deed(chance, *before))
                    done[right] += 1
                    if right:
                        past.append(before)
                        moved += before[1] != town.opening()
            while past:
                self.goes_back(town, past)
            self.refused(town, ("back",), NoBack)
            self.assertEqual(town.case(), case)
        self.assertGreater(min(done.values()), 200)
        self.assertGreater(moved, 60)

    def goes_back(self, town, past):
        """The last deed is taken back, where there is one."""
        if not past:
            self.refused(town, ("back",), NoBack)
            return
        now, then = (town.case(), town.opening()), past.pop()
        self.assertEqual(town.back(), changes(now, then))
        self.assertEqual((town.case(), town.opening()), then)
        self.made_anew(town)

    def test_thirty_places_without_long_waiting(self):
        chance = random.Random(221)
        names = small_names(30)
        web = map_of(names, line_ways(names, 5) + [(names[at], names[at + 7], 9) for at in range(23)])
        case = case_of(web, [(name, 3) for name in names[::3]], [(name, 2) for name in names], 5)
        town = Town(case, tuple(names[::9]))
        with within(60):
            for turn in range(60):
                self.check(town, chance_deed(chance, town.case(), town.opening()))


class Refused(Told):
    def test_no_place(self):
        for place in ("q", "", "A", "aa", " a", "abcdefg", "a b"):
            for deed in (("come", place, 1), ("leave", place, 1), ("length", place, "a", 1), ("length", "a", place, 1),
                         ("length", place, place, 1), ("charge", place, 1), ("begin", place), ("shut", place)):
                self.refused(town_with(), deed, NoPlace)

    def test_no_way(self):
        for one, other in (("a", "c"), ("c", "a"), ("b", "d"), ("a", "a"), ("e", "e"), ("e", "b")):
            self.refused(town_with(), ("length", one, other, 1), NoWay)

    def test_no_site(self):
        for place in "be":
            for deed in (("charge", place, 1), ("begin", place), ("shut", place)):
                self.refused(town_with(), deed, NoSite)

    def test_no_number(self):
        for number in (0, -1, -GREAT, True, False, None, "1", "", b"1", [], [1], (), (1,), {}, {1: 1}):
            for deed in (("come", "a", number), ("leave", "a", number), ("length", "a", "b", number)):
                self.refused(town_with(), deed, NoNumber)
            if number != 0 or number is False:
                self.refused(town_with(), ("charge", "a", number), NoNumber)

    def test_no_folk(self):
        for deed in (("leave", "a", 4), ("leave", "a", GREAT), ("leave", "e", 1), ("leave", "c", 1), ("leave", "b", 2)):
            self.refused(town_with(), deed, NoFolk)

    def test_nobody_left(self):
        town = Town(case_of(WEB, SITES, [("b", 3)], None), ("a",))
        for many in (3, 4):
            self.refused(town, ("leave", "b", many), NoFolk)
        self.assertEqual(town.leave("b", 2), [])
        self.refused(town, ("leave", "b", 1), NoFolk)
        self.assertEqual(town.come("e", 1), [("e", None, ("a", 6))])
        self.assertEqual(town.leave("b", 1), [("b", ("a", 2), None)])

    def test_open_or_shut_already(self):
        self.refused(town_with(), ("begin", "a"), NoOpening)
        self.refused(town_with(), ("begin", "c"), NoOpening)
        self.refused(town_with(), ("shut", "d"), NoOpening)
        self.refused(town_with(2), ("begin", "a"), NoOpening)
        self.refused(town_with(None, ("a",)), ("shut", "c"), NoOpening)

    def test_one_more_than_the_limit(self):
        self.refused(town_with(2), ("begin", "d"), NoOpening)
        self.refused(town_with(1, ("c",)), ("begin", "a"), NoOpening)
        for limit in (None, 3, 4, GREAT):
            town = town_with(limit)
            town.begin("d")
            self.assertEqual(town.opening(), ("a", "c", "d"))

    def test_the_last_house_shut(self):
        for limit in (None, 1, 2):
            for place in "acd":
                self.refused(town_with(limit, (place,)), ("shut", place), NoOpening)

    def test_of_several_the_first(self):
        for deed, refusal in (
            (("come", "q", 0), NoPlace), (("come", None, None), NoPlace), (("leave", "q", 0), NoPlace),
            (("leave", "q", GREAT), NoPlace), (("leave", "a", 0), NoNumber), (("leave", "e", 0), NoNumber),
            (("leave", "e", None), NoNumber), (("length", "q", "a", 0), NoPlace), (("length", "a", "q", 0), NoPlace),
            (("length", "a", "c", 0), NoWay), (("length", "a", "a", None), NoWay), (("length", "a", "b", 0), NoNumber),
            (("charge", "q", -1), NoPlace), (("charge", "b", -1), NoSite), (("charge", "a", -1), NoNumber),
            (("begin", "q"), NoPlace), (("begin", "b"), NoSite), (("begin", "d"), NoOpening), (("shut", "b"), NoSite),
        ):
            self.refused(town_with(2), deed, refusal)
        self.refused(town_with(1, ("a",)), ("shut", "e"), NoSite)
        self.refused(town_with(1, ("a",)), ("begin", "e"), NoSite)

    def test_things_of_every_kind_in_the_place_of_a_place(self):
        town = town_with()
        for thing in odd_things() + [1, GREAT]:
            for deed in (("come", thing, 1), ("leave", thing, 1), ("length", thing, "a", 1), ("length", "a", thing, 1),
                         ("length", thing, thing, 1), ("charge", thing, 1), ("begin", thing), ("shut", thing),
                         ("come", thing, thing), ("charge", thing, thing)):
                self.refused(town, deed, NoPlace)
        self.refused(town, ("back",), NoBack)

    def test_things_of_every_kind_in_the_place_of_a_number(self):
        town = town_with()
        for thing in odd_things() + ["", "1", "a"]:
            for deed in (("come", "a", thing), ("come", "e", thing), ("leave", "a", thing), ("length", "b", "a", thing)):
                self.refused(town, deed, NoNumber)
            if not is_number(thing, 0):
                self.refused(town, ("charge", "a", thing), NoNumber)
        for depth in (1, 30):
            self.refused(town, ("come", "a", nested(depth, lambda inner: [inner], 1)), NoNumber)
            self.refused(town, ("come", nested(depth, lambda inner: (inner,), "a"), 1), NoPlace)
        self.refused(town, ("back",), NoBack)

    def test_what_is_refused_is_no_deed(self):
        town = town_with(2)
        before = state(town)
        town.come("e", 2)
        for deed, refusal in ((("come", "q", 1), NoPlace), (("leave", "a", 9), NoFolk), (("begin", "d"), NoOpening),
                              (("length", "a", "c", 1), NoWay), (("charge", "b", 1), NoSite), (("come", "a", 0), NoNumber)):
            self.refused(town, deed, refusal)
        self.assertEqual(town.back(), [("e", ("a", 6), None)])
        self.assertEqual(state(town), before)
        self.refused(town, ("back",), NoBack)


class Back(Told):
    DEEDS = (("come", "e", 2), ("leave", "d", 2), ("length", "b", "a", 9), ("charge", "c", 5), ("begin", "d"), ("shut", "a"),
             ("charge", "a", 1), ("come", "b", 1))

    def test_deeds_of_each_kind_taken_back_in_turn(self):
        town = town_with()
        seen = []
        for deed in self.DEEDS:
            seen.append(state(town))
            self.assertTrue(self.check(town, deed))
        while seen:
            now, then = state(town), seen.pop()
            self.assertEqual(town.back(), changes(now[:2], then[:2]))
            self.assertEqual(state(town), then)
        for turn in range(3):
            self.refused(town, ("back",), NoBack)

    def test_what_is_told(self):
        town = town_with()
        town.begin("d")
        self.assertEqual(town.back(), [("d", ("d", 0), ("c", 4))])
        town.come("e", 2)
        self.assertEqual(town.back(), [("e", ("a", 6), None)])
        town.leave("d", 2)
        self.assertEqual(town.back(), [("d", None, ("c", 4))])
        town.charge("a", 9)
        self.assertEqual(town.back(), [])

    def test_at_first_there_is_none(self):
        self.refused(town_with(), ("back",), NoBack)

    def test_deeds_behind_a_taken_back_one(self):
        town = town_with()
        first = state(town)
        town.come("e", 2)
        second = state(town)
        town.begin("d")
        town.back()
        self.assertEqual(state(town), second)
        town.shut("a")
        town.length("a", "b", 1)
        town.back()
        town.back()
        self.assertEqual(state(town), second)
        town.back()
        self.assertEqual(state(town), first)
        self.refused(town, ("back",), NoBack)

    def test_two_towns_beside_each_other(self):
        case = case_with(None)
        one, other = Town(case, ("a", "c")), Town(case, ("a", "c"))
        one.come("e", 2)
        self.refused(other, ("back",), NoBack)
        other.begin("d")
        self.assertEqual(one.opening(), ("a", "c"))
        self.assertEqual(one.back(), [("e", ("a", 6), None)])
        self.assertEqual(other.opening(), ("a", "c", "d"))
        self.assertEqual(other.back(), [("d", ("d", 0), ("c", 4))])
        self.assertEqual(state(one), state(other))


class HandedInAndTold(Told):
    def test_what_is_handed_in_stays(self):
        case, opening, things = case_with(3), ("a", "c"), [["a"], {"a": 1}, [["a"]]]
        before = copy.deepcopy((case, opening, things))
        town = Town(case, opening)
        for deed in Back.DEEDS:
            do(town, deed)
        for thing in things:
            self.refused(town, ("come", thing, 1), NoPlace)
            self.refused(town, ("come", "a", thing), NoNumber)
        town.back()
        self.assertEqual((case, opening, things), before)

    def test_what_was_told_and_then_changed_changes_nothing(self):
        town = town_with()
        told = town.come("e", 2)
        told.clear()
        town.goings().append("z")
        before = state(town)
        ways = town.goings()
        ways[0] = None
        self.assertEqual(state(town), before)
        told = town.back()
        told[0] = None
        self.assertEqual(town.come("e", 2), [("e", None, ("a", 6))])
        self.assertEqual(state(town), before)

    def test_what_was_told_stays_behind_later_deeds(self):
        town = town_with()
        told = state(town)
        before = copy.deepcopy(told)
        for deed in Back.DEEDS:
            do(town, deed)
        self.assertEqual(told, before)

    def test_lists_that_the_case_was_made_of(self):
        sites, folk = list(SITES), list(FOLK)
        town = Town(case_of(WEB, sites, folk, None), ("a",))
        sites.clear()
        folk.append(("e", 1))
        self.assertEqual(town.case(), case_with(None))


if __name__ == "__main__":
    unittest.main()
