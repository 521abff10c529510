"""[7] Cases, and [2] as far as it speaks of what is handed in and told there."""

import copy
import itertools
import random
import unittest

from openhouses.cases import case_of
from openhouses.errors import NoCase
from openhouses.maps import map_of
from things import all_ways, line_ways, nested, odd_things, shown, small_names

GREAT = 10 ** 30 - 1
WEB = map_of(list("abcd"), line_ways("abcd", 2))
SITES = [("d", 3), ("a", 0), ("b", GREAT)]
FOLK = [("c", 1), ("d", GREAT), ("a", 7)]
RISING_SITES = (("a", 0), ("b", GREAT), ("d", 3))
RISING_FOLK = (("a", 7), ("c", 1), ("d", GREAT))
NAMES = small_names(30)
GREAT_WEB = map_of(NAMES, all_ways(NAMES, 1))


class RightCases(unittest.TestCase):
    def test_the_tuple_of_four(self):
        self.assertEqual(case_of(WEB, SITES, FOLK, 2), (WEB, RISING_SITES, RISING_FOLK, 2))

    def test_one_site_and_one_of_the_folks_places(self):
        web = map_of(["m"], [])
        for price, many in itertools.product((0, 1, GREAT), (1, 2, GREAT)):
            told = case_of(web, [("m", price)], [("m", many)], None)
            self.assertEqual(told, (web, (("m", price),), (("m", many),), None))

    def test_lists_and_tuples(self):
        for sites, folk in itertools.product((SITES, tuple(SITES)), (FOLK, tuple(FOLK))):
            self.assertEqual(case_of(WEB, sites, folk, None), (WEB, RISING_SITES, RISING_FOLK, None))

    def test_any_order(self):
        for sites, folk in itertools.product(itertools.permutations(SITES), itertools.permutations(FOLK)):
            self.assertEqual(case_of(WEB, list(sites), folk, 1), (WEB, RISING_SITES, RISING_FOLK, 1))

    def test_rising_is_by_names_as_texts(self):
        web = map_of(["b", "ab", "aaaaaa", "a"], line_ways(["b", "ab", "aaaaaa", "a"], 1))
        rows = [("b", 1), ("ab", 2), ("aaaaaa", 3), ("a", 4)]
        rising = (("a", 4), ("aaaaaa", 3), ("ab", 2), ("b", 1))
        self.assertEqual(case_of(web, rows, rows, None), (web, rising, rising, None))

    def test_ten_sites_and_thirty_of_the_folks_places(self):
        chance = random.Random(20)
        sites = [(place, chance.choice((0, 5, GREAT))) for place in chance.sample(NAMES, 10)]
        folk = [(place, chance.choice((1, 5, GREAT))) for place in chance.sample(NAMES, 30)]
        told = case_of(GREAT_WEB, sites, folk, 10)
        self.assertEqual(told, (GREAT_WEB, tuple(sorted(sites)), tuple(sorted(folk)), 10))

    def test_sites_and_folk_at_the_same_places(self):
        rows = [("b", 2), ("a", 1)]
        told = case_of(WEB, rows, rows, 1)
        self.assertEqual(told, (WEB, (("a", 1), ("b", 2)), (("a", 1), ("b", 2)), 1))

    def test_limits(self):
        for limit in (1, 2, 3, 4, 11, 1000, GREAT, None):
            self.assertEqual(case_of(WEB, SITES, FOLK, limit), (WEB, RISING_SITES, RISING_FOLK, limit))

    def test_kinds_of_what_is_told(self):
        for sites, folk in itertools.product((SITES, tuple(SITES)), (FOLK, tuple(FOLK))):
            told = case_of(WEB, sites, folk, 2)
            self.assertIs(type(told), tuple)
            self.assertEqual([type(part) for part in told], [tuple, tuple, tuple, int])
            for row in told[1] + told[2]:
                self.assertEqual((type(row), type(row[0]), type(row[1])), (tuple, str, int))

    def test_a_case_makes_itself(self):
        case = case_of(WEB, SITES, FOLK, 2)
        self.assertEqual(case_of(case[0], case[1], case[2], case[3]), case)


class NoCases(unittest.TestCase):
    def refused(self, sites, folk, limit):
        with self.assertRaises(NoCase, msg=shown((sites, folk, limit))):
            case_of(WEB, sites, folk, limit)

    def rows_refused(self, rows):
        """The rows are refused as sites and as folk, with a limit and without one."""
        for limit in (None, 1):
            self.refused(rows, FOLK, limit)
            self.refused(SITES, rows, limit)
        self.refused(rows, rows, None)

    def row_refused(self, row):
        """The row is refused alone, and wherever it stands among right ones."""
        self.rows_refused([row])
        self.rows_refused((row,))
        for at in range(3):
            rows = [("b", 1), ("c", 1)]
            rows.insert(at, row)
            self.rows_refused(rows)

    def test_what_is_neither_a_list_nor_a_tuple(self):
        things = [thing for thing in odd_things() if type(thing) not in (list, tuple)]
        for thing in things + ["", "a", "ab", 1, 2, {"a": 1}, {("a", 1): 1}, {("a", 1)}, iter([("a", 1)])]:
            self.rows_refused(thing)

    def test_none_of_them(self):
        self.rows_refused([])
        self.rows_refused(())

    def test_eleven_sites(self):
        for many in (11, 12, 30):
            rows = [(name, 1) for name in NAMES[:many]]
            for sites in (rows, tuple(rows)):
                with self.assertRaises(NoCase):
                    case_of(GREAT_WEB, sites, rows, None)

    def test_thirty_one_rows_of_folk(self):
        rows = [(name, 1) for name in NAMES]
        for folk in (rows + [("a", 1)], rows + [("a", 2)], rows + [("zz", 1)], rows * 33, tuple(rows) + (("a", 1),)):
            with self.assertRaises(NoCase):
                case_of(GREAT_WEB, rows[:10], folk, None)

    def test_a_place_twice(self):
        for number in (1, 2, GREAT):
            self.rows_refused([("a", 1), ("a", number)])
            self.rows_refused((("a", number), ("b", 1), ("a", 1)))
            self.rows_refused([("d", number), ("b", 1), ("c", 1), ("d", 1)])

    def test_a_place_that_is_none_of_the_maps(self):
        for thing in odd_things() + ["e", "aa", "zzzzzz", "", "abcdefg", "A", "a ", "a\n", "a1", 1, 2]:
            self.row_refused((thing, 1))

    def test_a_row_that_is_no_tuple_of_two(self):
        things = odd_things() + ["", "a", "ab", "a1", 1, ["a", 1], {"a": 1, "b": 1}, {"a", "b"}]
        things += [(), ("a",), (1,), ("a", 1, 1), ("a", 1, None), (("a", 1),), (("a", 1), ("d", 1))]
        for thing in things:
            self.row_refused(thing)

    def test_a_row_turned_about(self):
        self.row_refused((1, "a"))

    def test_a_cost_that_is_none(self):
        things = [thing for thing in odd_things() if type(thing) is not int]
        for thing in things + ["", "0", "1", "a", -1, -2, -GREAT]:
            for sites in ([("a", thing)], [("b", 1), ("a", thing)], (("a", thing), ("d", 0))):
                self.refused(sites, FOLK, None)
                self.refused(sites, FOLK, 1)

    def test_a_many_that_is_none(self):
        for thing in odd_things() + ["", "0", "1", "a", 0, -1, -GREAT]:
            for folk in ([("a", thing)], [("b", 1), ("a", thing)], (("a", thing), ("d", 1))):
                self.refused(SITES, folk, None)
                self.refused(SITES, folk, 1)

    def test_a_limit_that_is_none(self):
        things = [thing for thing in odd_things() if thing is not None]
        for thing in things + ["", "1", "None", "a", 0, -1, -GREAT, True, False, [1], (1,), [None], {1: 1}]:
            self.refused(SITES, FOLK, thing)

    def test_right_ones_nested_in_something(self):
        for depth in (1, 2, 30):
            for wrap in (lambda inner: [inner], lambda inner: (inner,)):
                self.refused(nested(depth, wrap, SITES), FOLK, None)
                self.refused(SITES, nested(depth, wrap, FOLK), None)
                self.refused(SITES, FOLK, nested(depth, wrap, 1))
                self.row_refused(nested(depth, wrap, ("a", 1)))
                self.row_refused((nested(depth, wrap, "a"), 1))
                self.row_refused(("a", nested(depth, wrap, 1)))

    def test_right_ones_that_stand_in_each_others_place(self):
        self.refused(2, FOLK, SITES)
        self.refused(SITES, None, FOLK)
        self.refused(WEB, SITES, None)


class HandedInAndTold(unittest.TestCase):
    def test_what_is_handed_in_stays_and_may_be_changed(self):
        sites, folk = list(SITES), list(FOLK)
        told = case_of(WEB, sites, folk, 2)
        self.assertEqual((sites, folk), (SITES, FOLK))
        sites.append(("c", 9))
        sites[0] = ("q", 1)
        folk.clear()
        self.assertEqual(told, (WEB, RISING_SITES, RISING_FOLK, 2))
        self.assertEqual(case_of(WEB, SITES, FOLK, 2), told)

    def test_what_is_refused_stays(self):
        for sites, folk, limit in (
            ([("d", 1), ("a", 1), ("a", 2)], [("b", 1), ("a", 1)], None),
            ([("d", 1), ("a", 1)], [("b", 1), ("a", 0)], None),
            ([("d", 1), ("a", 1)], [("b", 1), ["a", 1]], [2]),
        ):
            before = copy.deepcopy((sites, folk, limit))
            with self.assertRaises(NoCase):
                case_of(WEB, sites, folk, limit)
            self.assertEqual((sites, folk, limit), before)

    def test_lists_that_a_map_was_made_of_change_no_case(self):
        places, ways = ["a", "b"], [("b", "a", 1)]
        told = case_of(map_of(places, ways), [("a", 1)], [("b", 1)], None)
        places.clear()
        ways.clear()
        self.assertEqual(told, ((("a", "b"), (("a", "b", 1),)), (("a", 1),), (("b", 1),), None))


if __name__ == "__main__":
    unittest.main()
