"""[15] Tables on trees, [16] the table that is told and the best by it; [3] as far as it speaks of them; and [2] of these."""

import copy
import random
import unittest

from openhouses.cases import case_of
from openhouses.costs import cost
from openhouses.errors import NoTree
from openhouses.floors import holds, low_of
from openhouses.maps import map_of
from openhouses.openings import is_opening
from openhouses.plain import plain_best
from openhouses.tables import best_by_table, table_of
from reckoned import Reckoned, chance_line, even_case, reckoned_best, rows_from, site_places
from things import all_ways, chance_case, chance_tree, line_ways, small_names, within

GREAT = 10 ** 30 - 1
LIMITS = (None, 1, 2, 3, 5, 6, 7, 11, GREAT)


def with_few_sites(case, most):
    """The case with no more sites than that."""
    return case_of(case[0], case[1][:most], case[2], case[3])


class Asked(unittest.TestCase):
    def rows_asked(self, case, table):
        """The table is a list of the right rows, sorted by their first parts, with numbers whole or None."""
        mores = len(case[1]) if case[3] is None else min(case[3], len(case[1]))
        self.assertIs(type(table), list)
        firsts = [(place, site, more) for place in case[0][0] for site in site_places(case) for more in range(mores)]
        self.assertEqual([row[0] for row in table], firsts)
        for row in table:
            self.assertEqual([type(row), len(row), type(row[0])], [tuple, 2, tuple])
            self.assertEqual([type(part) for part in row[0]], [str, str, int])
            self.assertTrue(row[1] is None or type(row[1]) is int and row[1] >= 0, row)

    def best_asked(self, case):
        """What is told by the table is the best, with an opening that costs it."""
        told = best_by_table(case)
        self.assertEqual([type(told), len(told), type(told[0]), type(told[1])], [tuple, 2, int, tuple])
        least, opening = told
        self.assertEqual(least, reckoned_best(case)[0], case)
        self.assertEqual(least, plain_best(case)[0])
        self.assertIs(is_opening(case, opening), True, (case, opening))
        self.assertEqual(cost(case, opening), least)

    def asked(self, case):
        """All that is promised of a case but the numbers themselves, which are long to reckon plainly."""
        table = table_of(case)
        self.rows_asked(case, table)
        self.assertIs(holds(case, table), True, case)
        told = low_of(case, table)
        self.assertEqual((type(told), told), (int, reckoned_best(case)[0]), case)
        self.best_asked(case)

    def plainly_asked(self, case):
        """All numbers are those that [15] tells."""
        self.assertEqual(table_of(case), rows_from(Reckoned(case).lowered({})), case)
        self.asked(case)


class SmallTables(Asked):
    def test_one_place(self):
        web = map_of(["m"], [])
        for charge in (0, 5, GREAT):
            for limit in LIMITS:
                case = case_of(web, [("m", charge)], [("m", 3)], limit)
                self.assertEqual(table_of(case), [(("m", "m", 0), 0)])
                self.assertEqual(best_by_table(case), (charge, ("m",)))
                self.plainly_asked(case)

    def test_two_places(self):
        web = map_of(["a", "b"], [("a", "b", 3)])
        case = case_of(web, [("a", 4), ("b", 5)], [("a", 2), ("b", 1)], None)
        self.assertEqual(table_of(case), [
            (("a", "a", 0), 3), (("a", "a", 1), 5), (("a", "b", 0), 6), (("a", "b", 1), None),
            (("b", "a", 0), 3), (("b", "a", 1), None), (("b", "b", 0), 0), (("b", "b", 1), None),
        ])
        self.assertEqual(best_by_table(case), (7, ("a",)))
        self.plainly_asked(case)
        case = case_of(web, [("a", 4), ("b", 5)], [("a", 2), ("b", 1)], 1)
        self.assertEqual(table_of(case), [(("a", "a", 0), 3), (("a", "b", 0), 6), (("b", "a", 0), 3), (("b", "b", 0), 0)])
        self.plainly_asked(case)

    def test_a_line_of_three(self):
        # The root a lies in the middle, b and c on either side.
        web = map_of(["a", "b", "c"], [("a", "b", 2), ("a", "c", 5)])
        case = case_of(web, [("b", 1), ("c", 3)], [("b", 4), ("c", 2)], None)
        self.assertEqual(dict(table_of(case)), {
            ("a", "b", 0): 14, ("a", "b", 1): 3, ("a", "c", 0): 28, ("a", "c", 1): 1,
            ("b", "b", 0): 0, ("b", "b", 1): None, ("b", "c", 0): 28, ("b", "c", 1): None,
            ("c", "b", 0): 14, ("c", "b", 1): None, ("c", "c", 0): 0, ("c", "c", 1): None,
        })
        self.assertEqual(best_by_table(case), (4, ("b", "c")))
        self.plainly_asked(case)

    def test_limits(self):
        web = map_of(list("abcd"), [("a", "b", 2), ("a", "c", 5), ("c", "d", 1)])
        for limit, mores in ((None, 3), (1, 1), (2, 2), (3, 3), (4, 3), (11, 3), (GREAT, 3)):
            case = case_of(web, [("a", 1), ("b", 3), ("d", 2)], [("a", 4), ("c", 2), ("d", 1)], limit)
            self.assertEqual(len(table_of(case)), 4 * 3 * mores)
            self.plainly_asked(case)

    def test_sites_and_folk_at_the_root_at_leaves_and_between(self):
        for ways in (
            [("a", "b", 2), ("b", "c", 5), ("c", "d", 1)], [("a", "b", 2), ("a", "c", 5), ("a", "d", 1)],
            [("a", "d", 2), ("b", "d", 5), ("c", "d", 1)], [("a", "c", 2), ("c", "b", 1), ("a", "d", 3)],
        ):
            web = map_of(list("abcd"), ways)
            for sites in ("a", "b", "d", "ab", "ad", "bc", "cd", "abcd"):
                for folk in ("a", "b", "d", "ac", "bd", "abcd"):
                    for limit in (None, 2):
                        case = case_of(web, [(site, 3) for site in sites], [(place, 2) for place in folk], limit)
                        self.plainly_asked(case)

    def test_sites_that_cost_nothing(self):
        web = map_of(list("abcd"), [("a", "b", 2), ("a", "c", 5), ("c", "d", 1)])
        for limit in (None, 1, 2):
            self.plainly_asked(case_of(web, [(site, 0) for site in "abcd"], [(place, 1) for place in "abcd"], limit))

    def test_chance_trees(self):
        chance = random.Random(140)
        for turn in range(120):
            most = chance.choice((1, 2, 9, GREAT))
            web = chance.choice((chance_line, chance_tree))(chance, chance.randint(1, 7), most)
            self.plainly_asked(with_few_sites(even_case(chance, web, chance.choice((1, 3, 20)), LIMITS), 4))

    def test_numbers_of_thirty_figures(self):
        chance = random.Random(141)
        for turn in range(20):
            self.plainly_asked(with_few_sites(chance_case(chance, chance_tree(chance, 5, GREAT), GREAT), 4))

    def test_a_place_with_many_children(self):
        names = small_names(7)
        for middle in ("a", "d"):
            web = map_of(names, [(middle, name, at + 1) for at, name in enumerate(names) if name != middle])
            for limit in (None, 2, 3):
                sites = [("b", 3), ("d", 1), ("f", 2)]
                self.plainly_asked(case_of(web, sites, [(name, 2) for name in names], limit))


class SixteenPlaces(Asked):
    def test_stars_without_long_waiting(self):
        names = small_names(16)
        chance = random.Random(142)
        for middle in ("a", "h", "p"):
            web = map_of(names, [(middle, name, chance.randint(1, 9)) for name in names if name != middle])
            for limit in LIMITS:
                sites = [(place, chance.randint(0, 20)) for place in chance.sample(names, 6)]
                case = case_of(web, sites, [(name, chance.randint(1, 4)) for name in names], limit)
                with within(20):
                    self.asked(case)

    def test_chance_trees_without_long_waiting(self):
        chance = random.Random(143)
        for turn in range(60):
            web = chance.choice((chance_line, chance_tree))(chance, 16, chance.choice((1, 9, GREAT)))
            case = with_few_sites(even_case(chance, web, chance.choice((1, 3, 20)), LIMITS), 6)
            with within(20):
                self.asked(case)

    def test_somewhat_beyond_without_long_waiting(self):
        chance = random.Random(144)
        for limit in (None, 4):
            web = chance_tree(chance, 20, 9)
            sites = [(place, chance.randint(0, 30)) for place in web[0][:8]]
            with within(60):
                self.asked(case_of(web, sites, [(place, 2) for place in web[0]], limit))


class NoTrees(unittest.TestCase):
    def test_a_map_that_is_no_tree_is_refused_by_each_of_the_four(self):
        names = small_names(4)
        for web in (map_of(names, line_ways(names + ["a"], 2)), map_of(names, all_ways(names, 1)),
                    map_of(list("abc"), all_ways("abc", GREAT))):
            for limit in (None, 1):
                case = case_of(web, [("a", 1), ("b", 2)], [("c", 1)], limit)
                for ask in (table_of, best_by_table):
                    with self.assertRaises(NoTree):
                        ask(case)
                tree = case_of(map_of(web[0], line_ways(web[0], 1)), case[1], case[2], limit)
                for thing in (table_of(tree), [], None, "table", (), 0, True):
                    for ask in (holds, low_of):
                        with self.assertRaises(NoTree):
                            ask(case, thing)

    def test_the_line_of_the_same_places_is_not_refused(self):
        names = small_names(4)
        case = case_of(map_of(names, line_ways(names, 2)), [("a", 1), ("b", 2)], [("c", 1)], None)
        self.assertIs(holds(case, table_of(case)), True)
        self.assertEqual(low_of(case, table_of(case)), best_by_table(case)[0])


class HandedInAndTold(Asked):
    def setUp(self):
        chance = random.Random(145)
        self.case = with_few_sites(even_case(chance, chance_tree(chance, 6, 5), 3, (2,)), 4)

    def test_what_is_handed_in_stays(self):
        before = copy.deepcopy(self.case)
        table_of(self.case)
        best_by_table(self.case)
        self.assertEqual(self.case, before)

    def test_a_table_that_was_told_is_the_askers_own(self):
        table = table_of(self.case)
        right, best = copy.deepcopy(table), best_by_table(self.case)
        table.reverse()
        table[0] = (("q", "q", 0), -5)
        del table[3:]
        self.assertEqual(table_of(self.case), right)
        self.assertEqual(best_by_table(self.case), best)
        self.assertIs(holds(self.case, right), True)
        self.assertIs(holds(self.case, table), False)
        self.plainly_asked(self.case)
        self.assertEqual(len(table), 3)

    def test_asked_again_between_questions_of_another_case(self):
        other = case_of(self.case[0], self.case[1], self.case[2], None)
        for turn in range(2):
            self.plainly_asked(self.case)
            self.plainly_asked(other)


if __name__ == "__main__":
    unittest.main()
