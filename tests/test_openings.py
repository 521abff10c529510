"""[8] Openings, and [2] as far as it speaks of them."""

import copy
import itertools
import random
import unittest

from openhouses.cases import case_of
from openhouses.maps import map_of
from openhouses.openings import is_opening, openings
from things import all_ways, chance_case, chance_map, line_ways, nested, odd_things, shown, small_names

GREAT = 10 ** 30 - 1
WEB = map_of(list("abcdef"), line_ways("abcdef", 1))
NAMES = small_names(30)
GREAT_WEB = map_of(NAMES, all_ways(NAMES, 1))


def case_with(limit):
    """A case with sites at b, d and e, and this limit."""
    return case_of(WEB, [("d", 2), ("b", 0), ("e", 5)], [("a", 1), ("b", 3), ("f", 2)], limit)


def all_tried(case):
    """All openings, by each many of houses in turn."""
    web, sites, folk, limit = case
    places = [place for place, price in sites]
    most = len(sites) if limit is None else limit
    return sorted(houses for many in range(1, most + 1) for houses in itertools.combinations(places, many))


class Openings(unittest.TestCase):
    def test_without_a_limit(self):
        told = openings(case_with(None))
        self.assertEqual(told, [("b",), ("b", "d"), ("b", "d", "e"), ("b", "e"), ("d",), ("d", "e"), ("e",)])

    def test_with_a_limit(self):
        self.assertEqual(openings(case_with(1)), [("b",), ("d",), ("e",)])
        self.assertEqual(openings(case_with(2)), [("b",), ("b", "d"), ("b", "e"), ("d",), ("d", "e"), ("e",)])

    def test_with_a_limit_of_all_sites_and_beyond(self):
        for limit in (3, 4, 11, 1000, GREAT):
            self.assertEqual(openings(case_with(limit)), openings(case_with(None)))

    def test_one_site(self):
        for limit in (None, 1, 2, GREAT):
            self.assertEqual(openings(case_of(WEB, [("c", 9)], [("a", 1)], limit)), [("c",)])

    def test_ten_sites(self):
        places = random.Random(30).sample(NAMES, 10)
        for limit, many in ((None, 1023), (1, 10), (2, 55), (5, 637), (9, 1022), (10, 1023), (11, 1023)):
            case = case_of(GREAT_WEB, [(place, 1) for place in places], [("a", 1)], limit)
            told = openings(case)
            self.assertEqual(len(told), many)
            self.assertEqual(told, all_tried(case))

    def test_sorted_is_by_names_as_texts(self):
        web = map_of(["b", "ab", "a"], line_ways(["b", "ab", "a"], 1))
        told = openings(case_of(web, [("b", 1), ("ab", 1), ("a", 1)], [("a", 1)], 2))
        self.assertEqual(told, [("a",), ("a", "ab"), ("a", "b"), ("ab",), ("ab", "b"), ("b",)])

    def test_kinds_of_what_is_told(self):
        told = openings(case_with(None))
        self.assertIs(type(told), list)
        self.assertTrue(all([type(houses) is tuple for houses in told]))

    def test_chance_cases(self):
        chance = random.Random(31)
        for turn in range(40):
            case = chance_case(chance, chance_map(chance, chance.randint(1, 12), 5), 9)
            self.assertEqual(openings(case), all_tried(case))


class IsOpening(unittest.TestCase):
    def told(self, case, thing, answer):
        self.assertIs(is_opening(case, thing), answer, shown((case, thing)))

    def test_each_that_is_told(self):
        for limit in (None, 1, 2, 3, 4, GREAT):
            for houses in openings(case_with(limit)):
                self.told(case_with(limit), houses, True)

    def test_each_of_ten_sites(self):
        for limit in (None, 3, 10, 12):
            case = case_of(GREAT_WEB, [(place, 1) for place in NAMES[::3]], [("a", 1)], limit)
            for houses in openings(case):
                self.told(case, houses, True)

    def test_none_at_all(self):
        for limit in (None, 1, 3):
            self.told(case_with(limit), (), False)

    def test_a_list(self):
        for houses in openings(case_with(None)):
            self.told(case_with(None), list(houses), False)

    def test_one_turned_about(self):
        for houses in openings(case_with(None)):
            for order in itertools.permutations(houses):
                self.told(case_with(None), order, order == houses)

    def test_a_place_twice(self):
        for thing in (("b", "b"), ("b", "d", "d"), ("b", "b", "d"), ("b", "d", "b"), ("e", "e", "e")):
            self.told(case_with(None), thing, False)

    def test_one_too_many_for_the_limit(self):
        for limit in (1, 2, 3, 4):
            for houses in openings(case_with(None)):
                self.told(case_with(limit), houses, len(houses) <= limit)

    def test_a_place_that_is_no_site(self):
        for place in "acf":
            self.told(case_with(None), (place,), False)
            self.told(case_with(None), tuple(sorted(("b", place))), False)
            self.told(case_with(None), tuple(sorted(("d", "e", place))), False)

    def test_a_name_that_is_no_place(self):
        for name in ("g", "bb", "zzzzzz", "B", "", "b ", "bcdefgh", "bd", "b,d"):
            self.told(case_with(None), (name,), False)
            self.told(case_with(None), tuple(sorted(("b", name))), False)

    def test_more_than_there_are_sites(self):
        self.told(case_with(None), tuple("abcdef"), False)
        self.told(case_with(GREAT), ("b", "d", "e", "f"), False)
        self.told(case_with(None), ("b",) * 1000, False)

    def test_things_of_every_kind(self):
        things = odd_things() + [1, GREAT, {"b": 1}, {"b"}, frozenset("b"), b"b", iter(("b",))]
        for case in (case_with(None), case_with(1), case_of(WEB, [("f", 1)], [("a", 1)], None)):
            for thing in things:
                for inner in (thing, (thing,), ("b", thing), (thing, "b"), ("b", thing, "e"), (thing, thing)):
                    self.told(case, inner, False)
            for text in ("", "b", "bd", "b,d"):
                self.told(case, text, False)

    def test_right_ones_nested_in_something(self):
        for depth in (1, 2, 30):
            for wrap in (lambda inner: [inner], lambda inner: (inner,), lambda inner: {"b": inner}):
                self.told(case_with(None), nested(depth, wrap, ("b", "d")), False)
                self.told(case_with(None), ("b", nested(depth, wrap, "d")), False)

    def test_each_tuple_of_up_to_three(self):
        for limit in (None, 1, 2):
            case = case_with(limit)
            right = all_tried(case)
            for many in range(4):
                for thing in itertools.product("abcdef", repeat=many):
                    self.told(case, thing, thing in right)


class HandedInAndTold(unittest.TestCase):
    def test_what_is_handed_in_stays(self):
        case, things = case_with(2), [["e", "b"], ("e", "b"), ("b", "d"), {"b": 1}, [["b"], "d"]]
        before = copy.deepcopy((case, things))
        openings(case)
        for thing in things:
            is_opening(case, thing)
        self.assertEqual((case, things), before)

    def test_a_list_that_was_told_is_the_askers_own(self):
        case = case_with(1)
        told = openings(case)
        told.append(("c",))
        told[0] = ("a",)
        self.assertEqual(openings(case), [("b",), ("d",), ("e",)])
        self.assertIs(is_opening(case, ("b",)), True)
        self.assertIs(is_opening(case, ("c",)), False)
        self.assertEqual(told, [("a",), ("d",), ("e",), ("c",)])

    def test_lists_that_a_case_was_made_of_change_no_later_answer(self):
        sites, folk = [("a", 1), ("b", 2)], [("a", 1)]
        case = case_of(WEB, sites, folk, None)
        sites.append(("c", 1))
        folk.clear()
        self.assertEqual(openings(case), [("a",), ("a", "b"), ("b",)])
        self.assertIs(is_opening(case, ("c",)), False)

    def test_one_case_asked_between_questions_of_another(self):
        for turn in range(2):
            self.assertEqual(len(openings(case_with(None))), 7)
            self.assertEqual(len(openings(case_with(1))), 3)


if __name__ == "__main__":
    unittest.main()
