"""[12] The prices with a levy, and the paper, that are told; [3] as far as it speaks of them; and [2] of these."""

import copy
import importlib
import random
import unittest

from openhouses.cases import case_of
from openhouses.checker import lets_by, span
from openhouses.costs import cost
from openhouses.maps import map_of
from openhouses.papers import paper_of, prices_of
from openhouses.plain import plain_best
from openhouses.prices import is_full, low, stand
from openhouses.trees import is_line, is_tree
from reckoned import (
    chance_line, chance_web, even_case, reckoned_best, reckoned_full, reckoned_low, reckoned_settled, reckoned_stand,
)
from things import (
    all_ways, chance_case, chance_map, chance_tree, line_ways, small_names, table_of_fars, within,
)

GREAT = 10 ** 30 - 1
NAMES = small_names(30)
LIMITS = (None, 1, 2, 3, 4, 5, 9, 10, 11, GREAT)


class Told(unittest.TestCase):
    def right_prices(self, case, told, table):
        """The thing is a tuple of prices and a levy of the case that stand and are full."""
        self.assertIs(type(told), tuple)
        self.assertEqual(len(told), 2)
        prices, levy = told
        self.assertIs(type(prices), tuple)
        self.assertEqual([row[0] for row in prices], [place for place, many in case[2]])
        for row in prices:
            self.assertEqual([type(row), len(row), type(row[0]), type(row[1])], [tuple, 2, str, int])
            self.assertGreaterEqual(row[1], 0)
        self.assertIs(type(levy), int)
        self.assertGreaterEqual(levy, 0)
        if case[3] is None:
            self.assertEqual(levy, 0)
        self.assertTrue(reckoned_stand(case, table, prices, levy), case)
        self.assertTrue(reckoned_full(case, table, prices, levy), case)
        self.assertIs(stand(case, prices, levy), True)
        self.assertIs(is_full(case, prices, levy), True)

    def asked(self, case):
        """All that is promised of the prices and the paper that are told of a case."""
        table = table_of_fars(case[0])
        best = reckoned_best(case, table)[0]
        told, paper = prices_of(case), paper_of(case)
        self.right_prices(case, told, table)
        self.assertIs(type(paper), tuple)
        self.assertEqual(len(paper), 4)
        self.right_prices(case, paper[2:], table)
        self.assertIs(lets_by(case, paper), True, (case, paper))
        self.assertTrue(reckoned_settled(case, paper[0], table), (case, paper))
        least, most = span(case, paper)
        self.assertEqual(least, reckoned_low(case, paper[2], paper[3]))
        self.assertTrue(least <= best <= cost(case, paper[0]) <= most)
        self.assertLessEqual(low(case, told[0], told[1]), best)
        if is_line(case[0]) or is_tree(case[0]) and case[3] is None:
            self.assertEqual((low(case, told[0], told[1]), least, most), (best, best, best), case)
            self.assertEqual(plain_best(case)[0], best)


class Lines(Told):
    def test_a_line_of_five(self):
        web = map_of(list("abcde"), [("a", "b", 2), ("b", "c", 3), ("c", "d", 4), ("d", "e", 5)])
        for charge in (0, 1, 3, 10, 20, 100):
            for limit in LIMITS:
                self.asked(case_of(web, [("b", 10), ("e", charge)], [("a", 3), ("c", 5), ("d", 2)], limit))

    def test_one_place(self):
        web = map_of(["m"], [])
        for charge in (0, 1, GREAT):
            for limit in LIMITS:
                self.asked(case_of(web, [("m", charge)], [("m", 3)], limit))

    def test_sites_that_cost_nothing(self):
        chance = random.Random(80)
        for turn in range(40):
            web = chance_line(chance, chance.randint(2, 12), chance.choice((1, 3, 9)))
            places = chance.sample(web[0], chance.randint(1, min(10, len(web[0]))))
            folk = [(place, chance.randint(1, 9)) for place in chance.sample(web[0], chance.randint(1, len(web[0])))]
            self.asked(case_of(web, [(place, 0) for place in places], folk, chance.choice(LIMITS)))

    def test_folk_at_all_sites_and_nowhere_else(self):
        chance = random.Random(81)
        for turn in range(40):
            web = chance_line(chance, chance.randint(2, 10), chance.choice((1, 3, 9)))
            places = chance.sample(web[0], chance.randint(1, len(web[0])))
            sites = [(place, chance.randint(0, 20)) for place in places]
            folk = [(place, chance.randint(1, 5)) for place in places]
            self.asked(case_of(web, sites, folk, chance.choice(LIMITS)))

    def test_each_limit(self):
        chance = random.Random(82)
        for turn in range(25):
            web, sites, folk, limit = even_case(chance, chance_line(chance, chance.randint(6, 14), 9), 5, (None,))
            for limit in (None, 1, 2, 3, 4, 5, 6, 7, 8, 9, 10, 11):
                self.asked(case_of(web, sites, folk, limit))

    def test_chance_lines(self):
        chance = random.Random(83)
        for turn in range(200):
            most = chance.choice((1, 2, 9, GREAT))
            web = chance_line(chance, chance.randint(2, chance.choice((5, 10, 14))), most)
            self.asked(even_case(chance, web, chance.choice((1, 3, 20)), LIMITS))

    def test_numbers_of_thirty_figures(self):
        chance = random.Random(84)
        for turn in range(30):
            web = chance_line(chance, chance.randint(2, 10), GREAT)
            self.asked(chance_case(chance, web, GREAT))
            self.asked(even_case(chance, web, 9, LIMITS))


class Trees(Told):
    def test_a_star(self):
        names = small_names(9)
        for middle in ("a", "e", "i"):
            web = map_of(names, [(middle, name, 3) for name in names if name != middle])
            for charge in (0, 1, 5, 6, 7, 30):
                sites = [(name, charge) for name in names]
                self.asked(case_of(web, sites, [(name, 2) for name in names], None))
                self.asked(case_of(web, sites[1:5], [(name, 2) for name in names], None))
                self.asked(case_of(web, sites[1:5], [(name, 2) for name in names], 2))

    def test_chance_trees_without_a_limit(self):
        chance = random.Random(85)
        for turn in range(250):
            most = chance.choice((1, 2, 9, GREAT))
            web = chance_tree(chance, chance.randint(2, chance.choice((5, 10, 16))), most)
            self.asked(even_case(chance, web, chance.choice((1, 3, 20)), (None,)))

    def test_chance_trees_with_a_limit(self):
        chance = random.Random(86)
        for turn in range(80):
            web = chance_tree(chance, chance.randint(2, 12), chance.choice((1, 2, 9)))
            self.asked(even_case(chance, web, chance.choice((1, 3, 20)), (1, 2, 3, 11)))

    def test_sites_that_cost_nothing_and_folk_everywhere(self):
        chance = random.Random(87)
        for turn in range(30):
            web = chance_tree(chance, chance.randint(2, 10), 4)
            sites = [(place, chance.choice((0, 0, 3))) for place in web[0]]
            self.asked(case_of(web, sites, [(place, chance.randint(1, 3)) for place in web[0]], None))


class Rings(Told):
    def test_a_ring(self):
        for many in (3, 4, 5, 6, 7):
            names = small_names(many)
            web = map_of(names, line_ways(names + ["a"], 1))
            for charge in (0, 1, 2, 3, 9):
                for limit in (None, 1, 2, 11):
                    self.asked(case_of(web, [(name, charge) for name in names], [(name, 2) for name in names], limit))

    def test_chance_maps(self):
        chance = random.Random(88)
        for turn in range(150):
            web = chance_map(chance, chance.randint(3, 12), chance.choice((1, 2, 9, GREAT)))
            self.asked(even_case(chance, web, chance.choice((1, 3, 20)), LIMITS))
            self.asked(chance_case(chance, web, chance.choice((1, 9, GREAT))))


class Thirty(Told):
    def thirty(self, seed, web, limit, most):
        chance = random.Random(seed)
        sites = [(place, chance.randint(0, 20 * most)) for place in chance.sample(NAMES, 10)]
        case = case_of(web, sites, [(place, chance.randint(1, 5)) for place in NAMES], limit)
        with within(20):
            prices_of(case)
            paper_of(case)
        self.asked(case)

    def test_lines_without_long_waiting(self):
        for seed, (limit, most) in enumerate(((None, 1), (1, 3), (3, 9), (5, GREAT), (9, 9), (10, 9), (11, 9))):
            self.thirty(90 + seed, chance_line(random.Random(seed), 30, most), limit, most)

    def test_trees_without_long_waiting(self):
        for seed, (limit, most) in enumerate(((None, 1), (None, 9), (None, GREAT), (4, 9))):
            self.thirty(100 + seed, chance_tree(random.Random(seed), 30, most), limit, most)

    def test_maps_with_a_way_between_each_two_without_long_waiting(self):
        for seed, (limit, most) in enumerate(((None, 1), (None, 9), (4, GREAT), (4, 9))):
            chance = random.Random(seed)
            ways = [(one, other, chance.randint(1, most)) for one, other, length in all_ways(NAMES, 1)]
            self.thirty(110 + seed, map_of(NAMES, ways), limit, most)


class Modules(unittest.TestCase):
    def test_the_module_of_orders_is_there(self):
        self.assertEqual(importlib.import_module("openhouses.orders").__name__, "openhouses.orders")


class HandedInAndTold(Told):
    def test_what_is_handed_in_stays(self):
        chance = random.Random(89)
        case = even_case(chance, chance_web(chance, 8, 5), 3, (2,))
        before = copy.deepcopy(case)
        prices_of(case)
        paper_of(case)
        self.assertEqual(case, before)

    def test_asked_again_the_same_kinds_are_told(self):
        chance = random.Random(90)
        cases = [even_case(chance, chance_web(chance, 8, 5), 3, LIMITS) for turn in range(6)]
        for turn in range(2):
            for case in cases:
                self.asked(case)

    def test_lists_that_a_case_was_made_of_change_no_later_answer(self):
        web = map_of(list("abc"), line_ways("abc", 2))
        sites, folk = [("a", 5), ("c", 6)], [("a", 1), ("b", 2)]
        case = case_of(web, sites, folk, None)
        sites[0] = ("a", 100)
        folk.append(("c", 50))
        self.asked(case)
        self.assertEqual([place for place, price in prices_of(case)[0]], ["a", "b"])


if __name__ == "__main__":
    unittest.main()
