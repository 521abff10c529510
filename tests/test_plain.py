"""[9] The best of a case, and the plain best; and [2] as far as it speaks of it."""

import copy
import random
import unittest

from openhouses.cases import case_of
from openhouses.costs import cost
from openhouses.maps import map_of
from openhouses.openings import openings
from openhouses.plain import plain_best
from reckoned import chance_web, even_case, reckoned_best
from things import all_ways, chance_case, line_ways, small_names, within

GREAT = 10 ** 30 - 1
NAMES = small_names(30)
PAIR = map_of(["a", "b"], [("a", "b", 1)])
TRIO = map_of(["a", "b", "c"], line_ways("abc", 2))


class PlainBest(unittest.TestCase):
    def told(self, web, sites, folk, limit, least, opening):
        self.assertEqual(plain_best(case_of(web, sites, folk, limit)), (least, opening), (sites, folk, limit))

    def test_a_line(self):
        web = map_of(list("abcde"), [("a", "b", 2), ("b", "c", 3), ("c", "d", 4), ("d", "e", 5)])
        folk = [("a", 3), ("c", 5), ("d", 2)]
        # ("b",) costs 10 + 6 + 15 + 14, ("e",) 20 + 97, both 30 + 6 + 15 + 10.
        self.told(web, [("b", 10), ("e", 20)], folk, None, 45, ("b",))
        self.told(web, [("b", 10), ("e", 3)], folk, None, 44, ("b", "e"))
        self.told(web, [("b", 10), ("e", 3)], folk, 1, 45, ("b",))
        self.told(web, [("b", 90), ("e", 3)], folk, None, 100, ("e",))

    def test_one_site(self):
        for limit in (None, 1, 2, GREAT):
            self.told(TRIO, [("b", 7)], [("a", 2), ("c", 3)], limit, 17, ("b",))
            self.told(map_of(["m"], []), [("m", GREAT)], [("m", GREAT)], limit, GREAT, ("m",))

    def test_the_first_of_all_three(self):
        # Each of ("a",), ("a", "b") and ("b",) costs 2.
        for limit in (None, 1, 2, 9):
            self.told(PAIR, [("a", 1), ("b", 1)], [("a", 1), ("b", 1)], limit, 2, ("a",))

    def test_the_first_is_one_with_more_houses(self):
        # ("a", "b") and ("b",) cost 0, ("a",) does not.
        for limit in (None, 2, 9):
            self.told(PAIR, [("a", 0), ("b", 0)], [("b", 1)], limit, 0, ("a", "b"))
        self.told(PAIR, [("a", 0), ("b", 0)], [("b", 1)], 1, 0, ("b",))

    def test_the_first_is_one_with_fewer_houses(self):
        # ("a",) and ("a", "b") cost 0, ("b",) does not.
        for limit in (None, 1, 2, 9):
            self.told(PAIR, [("a", 0), ("b", 0)], [("a", 1)], limit, 0, ("a",))

    def test_the_first_by_names_as_texts(self):
        web = map_of(["b", "ab", "m"], [("b", "m", 1), ("ab", "m", 1)])
        self.told(web, [("b", 3), ("ab", 3)], [("m", 1)], None, 4, ("ab",))
        web = map_of(["aa", "ab", "b", "m"], [("aa", "m", 1), ("ab", "m", 1), ("b", "m", 1)])
        # Two of the three are open at best, whichever.
        sites, folk = [("aa", 1), ("ab", 1), ("b", 1)], [("aa", 9), ("ab", 9), ("b", 9)]
        self.told(web, sites, folk, 2, 20, ("aa", "ab"))
        self.told(web, sites, folk, None, 3, ("aa", "ab", "b"))

    def test_sites_that_cost_nothing(self):
        sites = [("a", 0), ("b", 0), ("c", 0)]
        folk = [("a", 1), ("b", 1), ("c", 1)]
        self.told(TRIO, sites, folk, None, 0, ("a", "b", "c"))
        self.told(TRIO, sites, folk, 3, 0, ("a", "b", "c"))
        self.told(TRIO, sites, folk, 2, 2, ("a", "b"))
        self.told(TRIO, sites, folk, 1, 4, ("b",))
        self.told(TRIO, sites, [("c", 5)], None, 0, ("a", "b", "c"))
        self.told(TRIO, sites, [("c", 5)], 2, 0, ("a", "c"))
        self.told(TRIO, sites, [("c", 5)], 1, 0, ("c",))

    def test_a_limit_beyond_how_many_sites_there_are(self):
        chance = random.Random(50)
        for turn in range(20):
            case = even_case(chance, chance_web(chance, chance.randint(2, 8), 5), 5, (None,))
            for limit in (len(case[1]), len(case[1]) + 1, 11, 1000, GREAT):
                self.assertEqual(plain_best(case[:3] + (limit,)), plain_best(case))

    def test_numbers_of_thirty_figures_to_the_last_figure(self):
        web = map_of(list("abc"), [("a", "b", GREAT), ("b", "c", GREAT - 1)])
        folk = [("a", GREAT), ("b", GREAT), ("c", 1)]
        self.told(web, [("a", GREAT), ("c", GREAT - 2)], folk, None, 2 * GREAT - 2 + GREAT * (GREAT - 1), ("a", "c"))
        self.told(web, [("a", GREAT), ("c", GREAT - 2)], folk, 1, GREAT + GREAT * GREAT + 2 * GREAT - 1, ("a",))

    def test_chance_cases(self):
        chance = random.Random(51)
        for turn in range(150):
            web = chance_web(chance, chance.randint(1, 11), chance.choice((1, 2, 9, GREAT)))
            limits = (None, 1, 2, 3, 5, 11)
            for case in (chance_case(chance, web, chance.choice((1, 5, GREAT))), even_case(chance, web, 3, limits)):
                least, opening = plain_best(case)
                self.assertEqual((least, opening), reckoned_best(case), case)
                self.assertEqual(least, cost(case, opening))
                self.assertEqual(least, min([cost(case, other) for other in openings(case)]))

    def test_ties_among_many(self):
        # All lengths are 1 and all sites cost alike, so that many openings cost the least.
        chance = random.Random(52)
        for turn in range(40):
            web = chance_web(chance, chance.randint(3, 9), 1)
            places = chance.sample(web[0], chance.randint(2, len(web[0])))
            folk = [(place, 1) for place in chance.sample(web[0], chance.randint(1, len(web[0])))]
            case = case_of(web, [(place, turn % 3) for place in places], folk, chance.choice((None, 1, 2, 3)))
            self.assertEqual(plain_best(case), reckoned_best(case), case)

    def test_ten_sites_and_thirty_places_without_long_waiting(self):
        chance = random.Random(53)
        for most in (1, 9, GREAT):
            web = map_of(NAMES, [(one, other, chance.randint(1, most)) for one, other, length in all_ways(NAMES, 1)])
            sites = [(place, chance.randint(0, 3 * most)) for place in chance.sample(NAMES, 10)]
            folk = [(place, chance.randint(1, 9)) for place in NAMES]
            for limit in (None, 1, 5, 10, 11):
                case = case_of(web, sites, folk, limit)
                with within(20):
                    told = plain_best(case)
                self.assertEqual(told, reckoned_best(case))

    def test_without_some_of_the_sites_that_are_left_shut_the_best_is_the_same(self):
        chance = random.Random(54)
        for turn in range(40):
            web, sites, folk, limit = even_case(
                chance, chance_web(chance, chance.randint(2, 10), 6), 4, (None, 1, 2, 3))
            least, opening = plain_best((web, sites, folk, limit))
            for some in range(4):
                left = [row for row in sites if row[0] in opening or chance.random() < 0.4]
                self.assertEqual(plain_best(case_of(web, left, folk, limit))[0], least)
            bare = [row for row in sites if row[0] in opening]
            self.assertEqual(plain_best(case_of(web, bare, folk, limit))[0], least)


class HandedInAndTold(unittest.TestCase):
    def test_kinds_of_what_is_told_asked_again_too(self):
        case = case_of(TRIO, [("a", 1), ("c", 1)], [("a", 1), ("b", 2), ("c", 3)], None)
        other = case_of(PAIR, [("b", 1)], [("a", 1)], 1)
        for turn in range(3):
            told = plain_best(case)
            self.assertEqual(told, (6, ("a", "c")))
            self.assertEqual([type(told), type(told[0]), type(told[1])], [tuple, int, tuple])
            self.assertEqual(plain_best(other), (2, ("b",)))

    def test_what_is_handed_in_stays(self):
        case = case_of(TRIO, [("a", 1), ("c", 1)], [("a", 1), ("b", 2), ("c", 3)], 2)
        before = copy.deepcopy(case)
        plain_best(case)
        self.assertEqual(case, before)

    def test_lists_that_a_case_was_made_of_change_no_later_answer(self):
        sites, folk = [("a", 5), ("c", 6)], [("a", 1), ("b", 2)]
        case = case_of(TRIO, sites, folk, None)
        told = plain_best(case)
        sites[0] = ("a", 100)
        folk.append(("c", 50))
        self.assertEqual(plain_best(case), told)


if __name__ == "__main__":
    unittest.main()
