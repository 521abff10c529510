"""[8] The house of each of the folk's places, the goings, and what all of it costs; and [2] as far as it speaks of it."""

import copy
import random
import unittest

from openhouses.cases import case_of
from openhouses.costs import cost, goings, houses_cost, ways_cost
from openhouses.maps import map_of
from openhouses.openings import openings
from things import all_ways, chance_case, chance_map, chance_tree, line_ways, small_names, table_of_fars, within

GREAT = 10 ** 30 - 1
NAMES = small_names(30)


def tried_goings(case, opening, table):
    """The goings, by looking at all houses of the opening for each of the folk's places."""
    told = []
    for place, many in case[2]:
        house = sorted(opening, key=lambda name: (table[place, name], name))[0]
        told.append((place, house, table[place, house]))
    return told


class Asked(unittest.TestCase):
    def all_told(self, case, opening, houses, ways):
        """The three sums are these, whole numbers all of them."""
        told = [houses_cost(case, opening), ways_cost(case, opening), cost(case, opening)]
        self.assertEqual(told, [houses, ways, houses + ways], (case, opening))
        self.assertEqual([type(number) for number in told], [int, int, int])

    def asked_of_all(self, case):
        """All that is told of a case's openings agrees with what is reckoned another way."""
        table, costs, manys = table_of_fars(case[0]), dict(case[1]), dict(case[2])
        for opening in openings(case):
            right = tried_goings(case, opening, table)
            told = goings(case, opening)
            self.assertIs(type(told), list)
            self.assertEqual(told, right)
            self.assertEqual([(type(row), len(row)) for row in told], [(tuple, 3)] * len(case[2]))
            ways = sum([manys[place] * length for place, house, length in right])
            self.all_told(case, opening, sum([costs[house] for house in opening]), ways)


class Goings(Asked):
    def test_a_line(self):
        web = map_of(list("abcde"), [("a", "b", 2), ("b", "c", 3), ("c", "d", 4), ("d", "e", 5)])
        case = case_of(web, [("b", 10), ("e", 20)], [("d", 2), ("a", 3), ("c", 5)], None)
        self.assertEqual(goings(case, ("b",)), [("a", "b", 2), ("c", "b", 3), ("d", "b", 7)])
        self.assertEqual(goings(case, ("e",)), [("a", "e", 14), ("c", "e", 9), ("d", "e", 5)])
        self.assertEqual(goings(case, ("b", "e")), [("a", "b", 2), ("c", "b", 3), ("d", "e", 5)])
        self.all_told(case, ("b",), 10, 6 + 15 + 14)
        self.all_told(case, ("e",), 20, 42 + 45 + 10)
        self.all_told(case, ("b", "e"), 30, 6 + 15 + 10)

    def test_one_place_for_all(self):
        web = map_of(["m"], [])
        for price, many in ((0, 1), (7, 3), (GREAT, GREAT)):
            case = case_of(web, [("m", price)], [("m", many)], None)
            self.assertEqual(goings(case, ("m",)), [("m", "m", 0)])
            self.all_told(case, ("m",), price, 0)

    def test_houses_and_folk_at_the_same_place(self):
        web = map_of(list("abc"), line_ways("abc", 4))
        case = case_of(web, [("a", 1), ("b", 2), ("c", 3)], [("a", 5), ("b", 6), ("c", 7)], None)
        self.assertEqual(goings(case, ("a", "b", "c")), [("a", "a", 0), ("b", "b", 0), ("c", "c", 0)])
        self.all_told(case, ("a", "b", "c"), 6, 0)
        self.assertEqual(goings(case, ("c",)), [("a", "c", 8), ("b", "c", 4), ("c", "c", 0)])
        self.all_told(case, ("c",), 3, 40 + 24)

    def test_the_first_by_name_of_houses_equally_near(self):
        # Each house is one way of 3 away from m, and all of them lie twice as far from x.
        names = ["t", "g", "z", "ga"]
        web = map_of(names + ["m", "x"], [(name, "m", 3) for name in names] + [("m", "x", 3)])
        case = case_of(web, [(name, 1) for name in names], [("m", 1), ("x", 1), ("z", 1)], None)
        self.assertEqual(goings(case, ("g", "ga", "t", "z")), [("m", "g", 3), ("x", "g", 6), ("z", "z", 0)])
        self.assertEqual(goings(case, ("ga", "t", "z")), [("m", "ga", 3), ("x", "ga", 6), ("z", "z", 0)])
        self.assertEqual(goings(case, ("t", "z")), [("m", "t", 3), ("x", "t", 6), ("z", "z", 0)])
        self.assertEqual(goings(case, ("g", "t")), [("m", "g", 3), ("x", "g", 6), ("z", "g", 6)])

    def test_the_first_by_name_though_its_way_has_more_places_or_nearer_ones_come_late(self):
        web = map_of(list("abcxyz"), [("z", "a", 1), ("a", "x", 1), ("x", "y", 1), ("y", "b", 1), ("b", "c", 1)])
        case = case_of(web, [("z", 0), ("c", 0)], [(name, 1) for name in "abxy"], None)
        # z lies ahead on this line: z a x y b c.
        told = [("a", "z", 1), ("b", "c", 1), ("x", "z", 2), ("y", "c", 2)]
        self.assertEqual(goings(case, ("c", "z")), told)
        web = map_of(list("abcm"), [("a", "b", 1), ("b", "m", 1), ("c", "m", 2)])
        case = case_of(web, [("a", 0), ("c", 0)], [("m", 1)], None)
        self.assertEqual(goings(case, ("a", "c")), [("m", "a", 2)])
        web = map_of(list("abcm"), [("c", "b", 1), ("b", "m", 1), ("a", "m", 2)])
        case = case_of(web, [("a", 0), ("c", 0)], [("m", 1)], None)
        self.assertEqual(goings(case, ("a", "c")), [("m", "a", 2)])

    def test_a_house_is_near_over_others_rather_than_by_its_own_way(self):
        web = map_of(list("abcd"), [("a", "b", 1), ("b", "c", 1), ("a", "c", 9), ("c", "d", 3)])
        case = case_of(web, [("a", 4), ("d", 4)], [("c", 2)], None)
        self.assertEqual(goings(case, ("a", "d")), [("c", "a", 2)])
        self.all_told(case, ("a", "d"), 8, 4)

    def test_nobody_goes_to_a_house_that_costs_all_the_same(self):
        web = map_of(list("abc"), line_ways("abc", 1))
        case = case_of(web, [("a", 2), ("b", 3), ("c", 100)], [("a", 1)], None)
        self.assertEqual(goings(case, ("a", "c")), [("a", "a", 0)])
        self.all_told(case, ("a", "c"), 102, 0)

    def test_a_shut_site_is_no_house(self):
        web = map_of(list("abc"), line_ways("abc", 1))
        case = case_of(web, [("a", 0), ("b", 0), ("c", 0)], [("a", 1), ("b", 1)], None)
        self.assertEqual(goings(case, ("c",)), [("a", "c", 2), ("b", "c", 1)])

    def test_rows_by_the_folks_places_in_order(self):
        names = random.Random(40).sample(NAMES, 30)
        web = map_of(names, line_ways(names, 1))
        case = case_of(web, [(names[0], 1)], [(name, 2) for name in names], None)
        told = goings(case, (names[0],))
        self.assertEqual([row[0] for row in told], NAMES)
        self.assertEqual(told, sorted([(name, names[0], at) for at, name in enumerate(names)]))


class Sums(Asked):
    def test_numbers_of_thirty_figures_to_the_last_figure(self):
        web = map_of(list("abc"), [("a", "b", GREAT), ("b", "c", GREAT - 1)])
        case = case_of(web, [("a", GREAT), ("c", GREAT - 2)], [("a", GREAT), ("b", GREAT), ("c", 1)], None)
        self.assertEqual(goings(case, ("a", "c")), [("a", "a", 0), ("b", "c", GREAT - 1), ("c", "c", 0)])
        self.all_told(case, ("a", "c"), 2 * GREAT - 2, GREAT * (GREAT - 1))
        self.assertEqual(goings(case, ("a",)), [("a", "a", 0), ("b", "a", GREAT), ("c", "a", 2 * GREAT - 1)])
        self.all_told(case, ("a",), GREAT, GREAT * GREAT + 2 * GREAT - 1)

    def test_houses_that_cost_nothing(self):
        web = map_of(list("ab"), [("a", "b", 3)])
        case = case_of(web, [("a", 0), ("b", 0)], [("b", 2)], None)
        self.all_told(case, ("a",), 0, 6)
        self.all_told(case, ("a", "b"), 0, 0)

    def test_a_limit_changes_no_opening_that_it_lets(self):
        chance = random.Random(41)
        for turn in range(20):
            web, sites, folk, limit = chance_case(chance, chance_map(chance, 8, 9), 9)
            free = case_of(web, sites, folk, None)
            for limit in (1, 2, 11):
                case = case_of(web, sites, folk, limit)
                for opening in openings(case):
                    for ask in (goings, houses_cost, ways_cost, cost):
                        self.assertEqual(ask(case, opening), ask(free, opening))

    def test_all_of_chance_cases(self):
        chance = random.Random(42)
        for turn in range(60):
            web = chance.choice((chance_map, chance_tree))(chance, chance.randint(1, 10), chance.choice((1, 2, 9, GREAT)))
            self.asked_of_all(chance_case(chance, web, chance.choice((1, 5, GREAT))))

    def test_all_of_thirty_places_with_a_way_between_each_two_without_long_waiting(self):
        chance = random.Random(43)
        for most in (1, 2, GREAT):
            web = map_of(NAMES, [(one, other, chance.randint(1, most)) for one, other, length in all_ways(NAMES, 1)])
            sites = [(place, chance.randint(0, most)) for place in chance.sample(NAMES, 10)]
            case = case_of(web, sites, [(place, chance.randint(1, most)) for place in NAMES], None)
            with within(60):
                self.asked_of_all(case)


class HandedInAndTold(unittest.TestCase):
    def setUp(self):
        self.web = map_of(list("abc"), [("a", "b", 1), ("b", "c", 2)])
        self.case = case_of(self.web, [("a", 5), ("c", 6)], [("a", 1), ("b", 2)], None)

    def test_what_is_handed_in_stays(self):
        opening = ("a", "c")
        before = copy.deepcopy((self.case, opening))
        for ask in (goings, houses_cost, ways_cost, cost):
            ask(self.case, opening)
        self.assertEqual((self.case, opening), before)

    def test_a_list_that_was_told_is_the_askers_own(self):
        told = goings(self.case, ("a", "c"))
        told.append(("q", "q", 1))
        told[0] = ("a", "c", 9)
        self.assertEqual(goings(self.case, ("a", "c")), [("a", "a", 0), ("b", "a", 1)])
        self.assertEqual([ask(self.case, ("a", "c")) for ask in (houses_cost, ways_cost, cost)], [11, 2, 13])
        self.assertEqual(told, [("a", "c", 9), ("b", "a", 1), ("q", "q", 1)])

    def test_lists_that_a_case_was_made_of_change_no_later_answer(self):
        sites, folk = [("a", 5), ("c", 6)], [("a", 1), ("b", 2)]
        case = case_of(self.web, sites, folk, None)
        sites[0] = ("a", 100)
        folk.append(("c", 50))
        self.assertEqual(goings(case, ("c",)), [("a", "c", 3), ("b", "c", 2)])
        self.assertEqual([ask(case, ("a",)) for ask in (houses_cost, ways_cost, cost)], [5, 2, 7])

    def test_one_case_asked_between_questions_of_another(self):
        other = case_of(self.web, [("a", 1), ("c", 0)], [("b", 4)], 1)
        for turn in range(2):
            self.assertEqual(goings(self.case, ("c",)), [("a", "c", 3), ("b", "c", 2)])
            self.assertEqual(goings(other, ("c",)), [("b", "c", 2)])
            self.assertEqual((cost(self.case, ("c",)), cost(other, ("c",))), (13, 8))


if __name__ == "__main__":
    unittest.main()
