"""[14] The best with a tree of tries that holds for it; [3] as far as it speaks of it; and [2] of this."""

import copy
import random
import unittest

from openhouses.best import best_of
from openhouses.cases import case_of
from openhouses.costs import cost
from openhouses.maps import map_of
from openhouses.plain import plain_best
from openhouses.tries import tries_hold
from reckoned import chance_line, even_case, reckoned_best, reckoned_leaves, reckoned_tree_low, site_places
from things import all_ways, chance_case, chance_map, chance_tree, line_ways, small_names, table_of_fars, within

GREAT = 10 ** 30 - 1
HUGE = 10 ** 100 - 1
NAMES = small_names(30)
LIMITS = (None, 1, 2, 3, 4, 9, 11, GREAT)


class Asked(unittest.TestCase):
    def right_form(self, case, tree, split):
        """The thing is a tree of tries, its leaves with prices and a levy of the case, no site split twice."""
        self.assertIs(type(tree), tuple)
        if tree[0] == "split":
            self.assertEqual(len(tree), 4)
            self.assertIn(tree[1], site_places(case))
            self.assertNotIn(tree[1], split)
            self.right_form(case, tree[2], split + (tree[1],))
            self.right_form(case, tree[3], split + (tree[1],))
            return
        self.assertEqual((tree[0], len(tree)), ("leaf", 3))
        word, prices, levy = tree
        self.assertIs(type(prices), tuple)
        self.assertEqual([row[0] for row in prices], [place for place, many in case[2]])
        for row in prices:
            self.assertEqual([type(row), len(row), type(row[0]), type(row[1])], [tuple, 2, str, int])
            self.assertGreaterEqual(row[1], 0)
        self.assertIs(type(levy), int)
        self.assertGreaterEqual(levy, 0)
        if case[3] is None:
            self.assertEqual(levy, 0)

    def asked(self, case):
        """All that is promised of the best that is told of a case."""
        table = table_of_fars(case[0])
        with within(60):
            told = best_of(case)
        self.assertIs(type(told), tuple)
        self.assertEqual(len(told), 3)
        least, opening, tree = told
        self.assertEqual((least, opening), reckoned_best(case, table), case)
        self.assertEqual([type(least), type(opening)], [int, tuple])
        self.assertEqual((least, opening), plain_best(case))
        self.assertEqual(least, cost(case, opening))
        self.right_form(case, tree, ())
        self.assertEqual(reckoned_tree_low(case, table, tree), least, case)
        for number, answer in ((least, True), (least + 1, False), (least - 1, True), (-HUGE, True), (HUGE, False)):
            self.assertIs(tries_hold(case, number, tree), answer, case)


class Best(Asked):
    def test_one_place(self):
        web = map_of(["m"], [])
        for charge in (0, 1, GREAT):
            for limit in LIMITS:
                self.asked(case_of(web, [("m", charge)], [("m", 3)], limit))

    def test_a_line_of_five(self):
        web = map_of(list("abcde"), [("a", "b", 2), ("b", "c", 3), ("c", "d", 4), ("d", "e", 5)])
        for charge in (0, 1, 3, 10, 20, 100):
            for limit in LIMITS:
                self.asked(case_of(web, [("b", 10), ("c", 7), ("e", charge)], [("a", 3), ("c", 5), ("d", 2)], limit))

    def test_the_first_of_several_openings(self):
        web = map_of(["a", "b"], [("a", "b", 1)])
        for sites, folk, limit, right in (
            ([("a", 1), ("b", 1)], [("a", 1), ("b", 1)], None, (2, ("a",))),
            ([("a", 0), ("b", 0)], [("b", 1)], None, (0, ("a", "b"))),
            ([("a", 0), ("b", 0)], [("b", 1)], 1, (0, ("b",))),
            ([("a", 0), ("b", 0)], [("a", 1)], None, (0, ("a",))),
        ):
            case = case_of(web, sites, folk, limit)
            self.asked(case)
            self.assertEqual(best_of(case)[:2], right)

    def test_a_ring(self):
        # On some of these rings no prices alone come to the best.
        for many in (3, 4, 5, 6, 7, 9):
            names = small_names(many)
            web = map_of(names, line_ways(names + ["a"], 1))
            for charge in (0, 1, 2, 3, 9):
                for limit in (None, 1, 2, 3, 11):
                    for step in (1, 2):
                        sites = [(name, charge) for name in names[::step]]
                        self.asked(case_of(web, sites, [(name, 2) for name in names[step - 1::step]], limit))

    def test_a_case_that_takes_splits(self):
        # Each of the folk lives beside two of the three sites, so that half a house at each would cost less than any.
        web = map_of(list("abcxyz"), [(one, other, 1) for one, other in ("ax", "ay", "bx", "bz", "cy", "cz")])
        case = case_of(web, [("a", 2), ("b", 2), ("c", 2)], [("x", 2), ("y", 2), ("z", 2)], None)
        self.asked(case)
        self.assertGreater(len(reckoned_leaves(best_of(case)[2])), 1)

    def test_chance_lines_and_trees(self):
        chance = random.Random(130)
        for turn in range(120):
            most = chance.choice((1, 2, 9, GREAT))
            make = chance.choice((chance_line, chance_tree))
            web = make(chance, chance.randint(2, chance.choice((5, 10, 14))), most)
            self.asked(even_case(chance, web, chance.choice((1, 3, 20)), LIMITS))

    def test_chance_maps_with_rings(self):
        chance = random.Random(131)
        for turn in range(120):
            web = chance_map(chance, chance.randint(3, chance.choice((5, 10, 14))), chance.choice((1, 2, 9, GREAT)))
            self.asked(even_case(chance, web, chance.choice((1, 3, 20)), LIMITS))
            self.asked(chance_case(chance, web, chance.choice((1, 9, GREAT))))

    def test_sites_that_cost_nothing(self):
        chance = random.Random(132)
        for turn in range(30):
            web = chance_map(chance, chance.randint(3, 10), 4)
            self.asked(case_of(web, [(place, 0) for place in web[0]], [(place, 2) for place in web[0][1:]], 2 + turn % 3))

    def test_numbers_of_thirty_figures(self):
        chance = random.Random(133)
        for turn in range(20):
            self.asked(chance_case(chance, chance_map(chance, chance.randint(2, 9), GREAT), GREAT))


class Thirty(Asked):
    def thirty(self, web, sites, most, limits):
        chance = random.Random(134)
        for limit in limits:
            folk = [(place, chance.randint(1, 3)) for place in NAMES]
            self.asked(case_of(web, [(place, chance.randint(most // 2, most)) for place in sites], folk, limit))

    def test_lines_and_trees_without_long_waiting(self):
        chance = random.Random(135)
        for make in (chance_line, chance_tree):
            web = make(chance, 30, 9)
            self.thirty(web, chance.sample(NAMES, 10), 60, (None, 2, 5, 11))

    def test_maps_with_a_way_between_each_two_without_long_waiting(self):
        chance = random.Random(136)
        for most in (2, 9, GREAT):
            web = map_of(NAMES, [(one, other, chance.randint(1, most)) for one, other, length in all_ways(NAMES, 1)])
            self.thirty(web, chance.sample(NAMES, 10), 10 * most, (None, 2, 5))

    def test_folk_beside_some_of_the_sites_without_long_waiting(self):
        chance = random.Random(137)
        for near in (2, 3, 4):
            ways = {(name, other): 1 for other in NAMES[10:] for name in chance.sample(NAMES[:10], near)}
            for one, other in zip(NAMES, NAMES[1:]):
                ways.setdefault((one, other), 3)
            web = map_of(NAMES, [(one, other, length) for (one, other), length in ways.items()])
            for limit in (None, 3, 4, 5):
                self.asked(case_of(web, [(name, 3) for name in NAMES[:10]], [(name, 1) for name in NAMES[10:]], limit))

    def test_a_great_ring_without_long_waiting(self):
        web = map_of(NAMES, line_ways(NAMES + ["a"], 1))
        self.thirty(web, NAMES[::3], 9, (None, 1, 3, 5, 9))


class HandedInAndTold(Asked):
    def test_what_is_handed_in_stays(self):
        chance = random.Random(138)
        case = even_case(chance, chance_map(chance, 8, 5), 3, (2,))
        before = copy.deepcopy(case)
        best_of(case)
        self.assertEqual(case, before)

    def test_asked_again_the_same_kinds_are_told(self):
        chance = random.Random(139)
        cases = [even_case(chance, chance_map(chance, 8, 5), 3, LIMITS) for turn in range(6)]
        for turn in range(2):
            for case in cases:
                self.asked(case)


if __name__ == "__main__":
    unittest.main()
