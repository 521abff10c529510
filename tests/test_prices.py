"""[10] Prices and a levy: what a site gets, when they stand, their low; [12] when they are full; and [2] of these."""

import copy
import random
import unittest

from openhouses.cases import case_of
from openhouses.maps import map_of
from openhouses.prices import gets, is_full, low, stand
from reckoned import (
    chance_levy, chance_prices, chance_web, even_case, reckoned_full, reckoned_gets, reckoned_low, reckoned_stand,
    with_price,
)
from things import all_ways, broken_rows, line_ways, nested, odd_things, shown, small_names, table_of_fars, within

GREAT = 10 ** 30 - 1
HUGE = 10 ** 100 - 1
NAMES = small_names(30)
# A line a b c d e with ways of 2, 3, 4 and 5.
WEB = map_of(list("abcde"), [("a", "b", 2), ("b", "c", 3), ("c", "d", 4), ("d", "e", 5)])
SITES = [("b", 10), ("e", 20)]
FOLK = [("a", 3), ("c", 5), ("d", 2)]
FREE = case_of(WEB, SITES, FOLK, None)
LIMITED = case_of(WEB, SITES, FOLK, 1)
# To b it costs 6 from a, 15 from c, 14 from d; to e it costs 42, 45, 10.
EDGE = (("a", 9), ("c", 20), ("d", 16))
NOUGHT = (("a", 0), ("c", 0), ("d", 0))


class Gets(unittest.TestCase):
    def told(self, case, prices, site, number):
        answer = gets(case, prices, site)
        self.assertEqual(answer, number, (prices, site))
        self.assertIs(type(answer), int)

    def test_prices_above_at_and_below_many_times_the_far(self):
        for case in (FREE, LIMITED):
            for price, got in ((0, 0), (1, 0), (5, 0), (6, 0), (7, 1), (8, 2), (106, 100)):
                self.told(case, (("a", price), ("c", 0), ("d", 0)), "b", got)
            for price, got in ((0, 0), (14, 0), (15, 0), (16, 1), (44, 29)):
                self.told(case, (("a", 0), ("c", price), ("d", 0)), "b", got)
            for price, got in ((0, 0), (9, 0), (10, 0), (11, 1), (14, 4), (15, 5)):
                self.told(case, (("a", 0), ("c", 0), ("d", price)), "e", got)

    def test_what_one_pays_too_little_takes_nothing_from_what_others_pay(self):
        self.told(FREE, (("a", 0), ("c", 0), ("d", 20)), "b", 6)
        self.told(FREE, (("a", 5), ("c", 14), ("d", 15)), "b", 1)
        self.told(FREE, (("a", 41), ("c", 46), ("d", 9)), "e", 1)

    def test_all_together(self):
        self.told(FREE, EDGE, "b", 3 + 5 + 2)
        self.told(FREE, EDGE, "e", 6)
        self.told(FREE, (("a", 43), ("c", 47), ("d", 13)), "e", 1 + 2 + 3)

    def test_folk_at_the_site_itself(self):
        case = case_of(WEB, [("c", 4)], [("c", 7)], None)
        for price in (0, 1, 5, HUGE):
            self.told(case, (("c", price),), "c", price)

    def test_numbers_of_thirty_and_of_a_hundred_figures(self):
        web = map_of(["a", "b"], [("a", "b", GREAT)])
        case = case_of(web, [("a", GREAT), ("b", 0)], [("a", 1), ("b", GREAT)], 3)
        self.told(case, (("a", HUGE), ("b", HUGE)), "a", 2 * HUGE - GREAT * GREAT)
        self.told(case, (("a", HUGE), ("b", HUGE)), "b", 2 * HUGE - GREAT)
        self.told(case, (("a", GREAT), ("b", GREAT * GREAT)), "a", GREAT)
        self.told(case, (("a", GREAT), ("b", GREAT * GREAT + 1)), "a", GREAT + 1)
        self.told(case, (("a", GREAT), ("b", GREAT * GREAT - 1)), "a", GREAT)
        self.told(case, (("a", GREAT + 1), ("b", 0)), "b", 1)

    def test_chance_cases(self):
        chance = random.Random(60)
        for turn in range(80):
            most = chance.choice((1, 3, 9, GREAT))
            case = even_case(chance, chance_web(chance, chance.randint(1, 10), most), most, (None, 1, 3))
            table = table_of_fars(case[0])
            for some in range(4):
                prices = chance_prices(chance, case, table, chance_levy(chance, case, 9), some == 0)
                prices = tuple([(place, price * chance.choice((1, 1, 2))) for place, price in prices])
                for site, charge in case[1]:
                    self.told(case, prices, site, reckoned_gets(case, table, prices, site))


class Low(unittest.TestCase):
    def told(self, case, prices, levy, number):
        answer = low(case, prices, levy)
        self.assertEqual(answer, number, (case[3], prices, levy))
        self.assertIs(type(answer), int)

    def test_without_a_limit(self):
        self.told(FREE, EDGE, 0, 45)
        self.told(FREE, NOUGHT, 0, 0)

    def test_with_a_limit(self):
        for limit in (1, 2, 3, 11, GREAT):
            case = case_of(WEB, SITES, FOLK, limit)
            for levy in (0, 1, 7, GREAT, HUGE):
                self.told(case, EDGE, levy, 45 - limit * levy)

    def test_below_nought(self):
        self.told(LIMITED, EDGE, 46, -1)
        self.told(LIMITED, NOUGHT, 5, -5)
        self.told(case_of(WEB, SITES, FOLK, 3), EDGE, 100, -255)

    def test_of_prices_that_do_not_stand_too(self):
        self.told(FREE, (("a", 1000), ("c", 100), ("d", 10)), 0, 1110)
        self.told(LIMITED, (("a", 1000), ("c", 100), ("d", 10)), 10, 1100)

    def test_numbers_of_a_hundred_figures(self):
        prices = (("a", HUGE), ("c", HUGE - 1), ("d", HUGE - 2))
        self.told(FREE, prices, 0, 3 * HUGE - 3)
        self.told(case_of(WEB, SITES, FOLK, GREAT), prices, HUGE, 3 * HUGE - 3 - GREAT * HUGE)


class Stand(unittest.TestCase):
    def told(self, case, prices, levy, answer):
        self.assertIs(stand(case, prices, levy), answer, shown((case[1:], prices, levy)))

    def test_at_the_very_edge(self):
        # By EDGE b gets 10, just its cost, and e gets 6 of 20.
        self.told(FREE, EDGE, 0, True)
        self.told(LIMITED, EDGE, 0, True)
        for at in range(3):
            self.told(FREE, with_price(EDGE, at, EDGE[at][1] + 1), 0, False)
            self.told(LIMITED, with_price(EDGE, at, EDGE[at][1] + 1), 0, False)
            self.told(LIMITED, with_price(EDGE, at, EDGE[at][1] + 1), 1, True)
            self.told(LIMITED, with_price(EDGE, at, EDGE[at][1] + 5), 4, False)
            self.told(LIMITED, with_price(EDGE, at, EDGE[at][1] + 5), 5, True)
            self.told(FREE, with_price(EDGE, at, EDGE[at][1] - 1), 0, True)
            self.told(FREE, with_price(EDGE, at, 0), 0, True)

    def test_each_site_is_asked(self):
        # Only e gets too much, or only b.
        case = case_of(WEB, [("b", 100), ("e", 5)], FOLK, None)
        self.told(case, (("a", 0), ("c", 0), ("d", 15)), 0, True)
        self.told(case, (("a", 0), ("c", 0), ("d", 16)), 0, False)
        case = case_of(WEB, [("b", 0), ("e", 50)], FOLK, None)
        self.told(case, (("a", 6), ("c", 15), ("d", 14)), 0, True)
        self.told(case, (("a", 7), ("c", 15), ("d", 14)), 0, False)
        case = case_of(WEB, [("a", 5), ("b", 100), ("e", 5)], FOLK, None)
        self.told(case, (("a", 5), ("c", 0), ("d", 0)), 0, True)
        self.told(case, (("a", 6), ("c", 0), ("d", 0)), 0, False)

    def test_all_prices_nought(self):
        self.told(FREE, NOUGHT, 0, True)
        for levy in (0, 1, GREAT, HUGE):
            self.told(LIMITED, NOUGHT, levy, True)

    def test_numbers_of_a_hundred_figures(self):
        web = map_of(["a", "b"], [("a", "b", GREAT)])
        for limit in (1, 2, GREAT):
            case = case_of(web, [("a", GREAT), ("b", 0)], [("a", 1), ("b", GREAT)], limit)
            # b gets price - GREAT of a, and the whole price of b.
            levy = HUGE - GREAT
            self.told(case, (("a", HUGE), ("b", 0)), levy, True)
            self.told(case, (("a", HUGE + 1), ("b", 0)), levy, False)
            self.told(case, (("a", HUGE), ("b", 1)), levy, False)
            self.told(case, (("a", HUGE), ("b", 1)), levy + 1, True)
            self.told(case, (("a", 0), ("b", levy)), levy, True)
            self.told(case, (("a", 0), ("b", levy + 1)), levy, False)

    def test_a_levy_without_a_limit(self):
        for levy in (1, 2, GREAT, HUGE):
            self.told(FREE, EDGE, levy, False)
            self.told(FREE, NOUGHT, levy, False)

    def test_a_levy_that_is_none(self):
        things = [thing for thing in odd_things() if type(thing) is not int]
        for thing in things + [-1, -2, -GREAT, -HUGE, True, False, "", "0", "1", None, [0], (0,), {0: 0}, [[]], b"0"]:
            for case in (FREE, LIMITED, case_of(WEB, SITES, FOLK, GREAT)):
                self.told(case, EDGE, thing, False)
                self.told(case, NOUGHT, thing, False)

    def test_prices_with_one_thing_broken(self):
        for case in (FREE, LIMITED):
            for prices in (EDGE, NOUGHT, (("a", 1), ("c", 1), ("d", 1))):
                for thing in broken_rows(prices, ["a", "b", "c", "d", "e", "q"]):
                    if thing != prices:
                        self.told(case, thing, 0, False)

    def test_prices_of_one_place_with_one_thing_broken(self):
        case = case_of(WEB, SITES, [("c", 5)], 2)
        self.told(case, (("c", 20),), 0, True)
        for thing in broken_rows((("c", 20),), ["a", "b", "d", "q"]):
            self.told(case, thing, 0, False)

    def test_a_list_at_any_row(self):
        for at in range(3):
            rows = [list(row) if row == EDGE[at] else row for row in EDGE]
            self.told(FREE, tuple(rows), 0, False)
        self.told(FREE, list(EDGE), 0, False)

    def test_a_price_that_is_none(self):
        things = [thing for thing in odd_things() if type(thing) is not int]
        for thing in things + [-1, -2, -GREAT, -HUGE, "", "0", "1", "a", [1], (1,), b"1"]:
            for at in range(3):
                for case in (FREE, LIMITED):
                    self.told(case, with_price(EDGE, at, thing), 0, False)

    def test_a_place_that_is_none(self):
        for thing in odd_things() + ["", "q", "b", "e", "aa", "A", 1]:
            for at, (place, price) in enumerate(EDGE):
                self.told(FREE, EDGE[:at] + ((thing, price),) + EDGE[at + 1:], 0, False)

    def test_things_of_every_kind(self):
        things = odd_things() + ["", "a", "acd", "a=1", 1, GREAT, [EDGE], (EDGE,), {"a": 9, "c": 20, "d": 16}]
        for thing in things:
            for case in (FREE, LIMITED):
                self.told(case, thing, 0, False)
                self.told(case, thing, thing, False)
                self.told(case, (thing, thing, thing), 0, False)
                for at in range(3):
                    self.told(case, EDGE[:at] + (thing,) + EDGE[at + 1:], 0, False)

    def test_right_ones_nested_in_something(self):
        for depth in (1, 2, 29):
            for wrap in (lambda inner: [inner], lambda inner: (inner,), lambda inner: {"a": inner}):
                self.told(LIMITED, nested(depth, wrap, EDGE), 0, False)
                self.told(LIMITED, EDGE, nested(depth, wrap, 0), False)
                for at in range(3):
                    place, price = EDGE[at]
                    for row in (nested(depth, wrap, EDGE[at]), (nested(depth, wrap, place), price),
                                (place, nested(depth, wrap, price))):
                        self.told(LIMITED, EDGE[:at] + (row,) + EDGE[at + 1:], 0, False)

    def test_things_in_each_others_place(self):
        self.told(LIMITED, 0, EDGE, False)
        self.told(FREE, None, None, False)
        self.told(FREE, EDGE, EDGE, False)
        self.told(FREE, 0, 0, False)

    def test_chance_cases(self):
        chance = random.Random(61)
        seen = {True: 0, False: 0}
        for turn in range(120):
            most = chance.choice((1, 3, 9, GREAT))
            case = even_case(chance, chance_web(chance, chance.randint(1, 10), most), most, (None, 1, 2, 3, 11))
            table = table_of_fars(case[0])
            levy = chance_levy(chance, case, most)
            prices = chance_prices(chance, case, table, levy, chance.random() < 0.5)
            self.told(case, prices, levy, True)
            for at in range(len(prices)):
                more = with_price(prices, at, prices[at][1] + 1)
                answer = reckoned_stand(case, table, more, levy)
                seen[answer] += 1
                self.told(case, more, levy, answer)
        self.assertGreater(min(seen.values()), 50)

    def test_thirty_places_with_ten_sites_without_long_waiting(self):
        chance = random.Random(62)
        web = map_of(NAMES, [(one, other, chance.randint(1, 9)) for one, other, length in all_ways(NAMES, 1)])
        sites = [(place, chance.randint(0, 30)) for place in chance.sample(NAMES, 10)]
        case = case_of(web, sites, [(place, chance.randint(1, 9)) for place in NAMES], 4)
        table = table_of_fars(web)
        prices = chance_prices(chance, case, table, 5, True)
        with within(20):
            self.told(case, prices, 5, True)
            for at in range(30):
                self.told(case, with_price(prices, at, prices[at][1] + 1), 5, False)
            self.assertIs(is_full(case, prices, 5), True)


class IsFull(unittest.TestCase):
    def told(self, case, prices, levy, answer):
        self.assertIs(is_full(case, prices, levy), answer, (case[1:], prices, levy))

    def test_full_and_not(self):
        # By EDGE b gets all it may, of all three, so none of them may rise.
        self.told(FREE, EDGE, 0, True)
        self.told(LIMITED, EDGE, 0, True)
        self.told(LIMITED, EDGE, 1, False)
        for at in range(3):
            less = with_price(EDGE, at, EDGE[at][1] - 1)
            self.told(FREE, less, 0, False)
            self.told(LIMITED, less, 0, False)

    def test_one_that_may_rise_alone_is_enough(self):
        # b gets 10 from a alone; c and d may each rise up to where they reach b.
        self.told(FREE, (("a", 16), ("c", 15), ("d", 14)), 0, True)
        self.told(FREE, (("a", 16), ("c", 14), ("d", 14)), 0, False)
        self.told(FREE, (("a", 16), ("c", 15), ("d", 13)), 0, False)
        self.told(FREE, (("a", 15), ("c", 15), ("d", 14)), 0, False)
        self.told(FREE, (("a", 16), ("c", 0), ("d", 0)), 0, False)

    def test_with_a_levy(self):
        self.told(LIMITED, (("a", 20), ("c", 15), ("d", 14)), 4, True)
        self.told(LIMITED, (("a", 19), ("c", 15), ("d", 14)), 4, False)
        self.told(LIMITED, (("a", 20), ("c", 15), ("d", 14)), 5, False)
        self.told(LIMITED, (("a", HUGE), ("c", 15), ("d", 14)), HUGE - 16, True)
        self.told(LIMITED, (("a", HUGE - 1), ("c", 15), ("d", 14)), HUGE - 16, False)
        self.told(LIMITED, (("a", HUGE), ("c", 15), ("d", 14)), HUGE - 15, False)

    def test_all_prices_nought(self):
        web = map_of(["a", "b"], [("a", "b", 1)])
        self.told(case_of(web, [("a", 0)], [("a", 3)], None), (("a", 0),), 0, True)
        self.told(case_of(web, [("a", 0)], [("a", 3)], 1), (("a", 0),), 0, True)
        self.told(case_of(web, [("a", 0)], [("a", 3)], 1), (("a", 0),), 1, False)
        self.told(case_of(web, [("b", 0)], [("a", 3)], None), (("a", 0),), 0, False)

    def test_another_site_that_holds_a_price_down(self):
        # a reaches b and e far apart; e lets d rise no more though b would.
        case = case_of(WEB, [("b", 1000), ("e", 3)], FOLK, None)
        self.told(case, (("a", 42), ("c", 45), ("d", 13)), 0, True)
        self.told(case, (("a", 42), ("c", 45), ("d", 12)), 0, False)
        self.told(case, (("a", 41), ("c", 45), ("d", 13)), 0, False)
        self.told(case, (("a", 42), ("c", 48), ("d", 10)), 0, True)
        self.told(case, (("a", 42), ("c", 48), ("d", 9)), 0, False)

    def test_chance_cases(self):
        chance = random.Random(63)
        seen = {True: 0, False: 0}
        for turn in range(120):
            most = chance.choice((1, 3, 9, GREAT))
            case = even_case(chance, chance_web(chance, chance.randint(1, 10), most), most, (None, 1, 2, 3, 11))
            table = table_of_fars(case[0])
            levy = chance_levy(chance, case, most)
            full = chance_prices(chance, case, table, levy, True)
            self.told(case, full, levy, True)
            some = chance_prices(chance, case, table, levy, False)
            answer = reckoned_full(case, table, some, levy)
            seen[answer] += 1
            self.told(case, some, levy, answer)
            for at in range(len(full)):
                if full[at][1]:
                    self.told(case, with_price(full, at, full[at][1] - 1), levy, False)
        self.assertGreater(min(seen.values()), 5)


class HandedInAndTold(unittest.TestCase):
    def test_what_is_handed_in_stays(self):
        things = [list(EDGE), EDGE, (["a", 9], ["c", 20]), [["d", 1], ("a", 2)], {"a": [1]}, [0], 0]
        before = copy.deepcopy((FREE, LIMITED, things))
        for case in (FREE, LIMITED):
            for thing in things:
                for levy in things:
                    stand(case, thing, levy)
            gets(case, EDGE, "b")
            low(case, EDGE, 0)
            is_full(case, EDGE, 0)
        self.assertEqual((FREE, LIMITED, things), before)

    def test_what_was_handed_in_and_then_changed_changes_no_later_answer(self):
        rows = [list(row) for row in EDGE]
        self.assertIs(stand(FREE, rows, 0), False)
        rows[0][1] = 0
        self.assertIs(stand(FREE, EDGE, 0), True)
        self.assertEqual(gets(FREE, EDGE, "b"), 10)

    def test_asked_again_the_same_is_told(self):
        chance = random.Random(64)
        case = even_case(chance, chance_web(chance, 8, 5), 5, (2,))
        table = table_of_fars(case[0])
        prices = chance_prices(chance, case, table, 3, True)
        for turn in range(2):
            self.assertIs(stand(case, prices, 3), True)
            self.assertIs(stand(FREE, EDGE, 0), True)
            self.assertIs(is_full(case, prices, 3), True)
            self.assertEqual(low(case, prices, 3), reckoned_low(case, prices, 3))
            self.assertEqual([low(FREE, EDGE, 0), low(LIMITED, EDGE, 5)], [45, 40])


if __name__ == "__main__":
    unittest.main()
