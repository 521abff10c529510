"""[11] Papers: which of them are let by, their low and high; [3] as far as it speaks of papers; and [2] of these."""

import copy
import random
import unittest

from openhouses.cases import case_of
from openhouses.checker import lets_by, span
from openhouses.costs import cost
from openhouses.maps import map_of
from reckoned import (
    all_openings, chance_levy, chance_prices, chance_web, even_case, reckoned_best, reckoned_cost, reckoned_low,
    reckoned_stand, with_price,
)
from things import all_ways, broken_rows, nested, odd_things, shown, small_names, table_of_fars, within

GREAT = 10 ** 30 - 1
HUGE = 10 ** 100 - 1
NAMES = small_names(30)
# A line a b c d e with ways of 2, 3, 4 and 5.
WEB = map_of(list("abcde"), [("a", "b", 2), ("b", "c", 3), ("c", "d", 4), ("d", "e", 5)])
SITES = [("b", 10), ("c", 30), ("e", 20)]
FOLK = [("a", 3), ("c", 5), ("d", 2)]
# To b it costs 6 from a, 15 from c, 14 from d; to c 15, 0 and 8; to e 42, 45 and 10.
PRICES = (("a", 9), ("c", 20), ("d", 16))
WAYS = (("a", "b"), ("c", "b"), ("d", "e"))


def case_with(limit):
    return case_of(WEB, SITES, FOLK, limit)


def chance_goings(chance, case, opening):
    """Goings to any houses of the opening."""
    return tuple([(place, chance.choice(opening)) for place, many in case[2]])


def chance_paper(chance, case, table, most):
    """A paper with any opening and goings, and prices that stand with its levy."""
    opening = chance.choice(all_openings(case))
    levy = chance_levy(chance, case, most)
    return (opening, chance_goings(chance, case, opening), chance_prices(chance, case, table, levy, False), levy)


class Told(unittest.TestCase):
    def told(self, case, paper, answer):
        self.assertIs(lets_by(case, paper), answer, shown((case[1:], paper)))

    def one_part_refused(self, case, paper, at, things):
        """The paper is let by, and with none of these things in the place of that part."""
        self.told(case, paper, True)
        for thing in things:
            self.told(case, paper[:at] + (thing,) + paper[at + 1:], False)


class LetBy(Told):
    def test_any_opening_and_goings(self):
        for limit in (None, 2, 3, 11):
            case = case_with(limit)
            for opening in all_openings(case):
                for house in opening:
                    ways = (("a", house), ("c", opening[0]), ("d", opening[-1]))
                    self.told(case, (opening, ways, PRICES, 0), True)

    def test_goings_that_are_not_the_nearest(self):
        self.told(case_with(None), (("b", "c", "e"), (("a", "e"), ("c", "e"), ("d", "b")), PRICES, 0), True)
        self.told(case_with(None), (("b", "c", "e"), (("a", "c"), ("c", "b"), ("d", "c")), PRICES, 0), True)

    def test_a_house_to_which_nobody_goes(self):
        self.told(case_with(None), (("b", "c", "e"), (("a", "b"), ("c", "b"), ("d", "b")), PRICES, 0), True)

    def test_any_prices_and_levy_that_stand(self):
        nought = (("a", 0), ("c", 0), ("d", 0))
        for levy in (0, 1, 100, GREAT, HUGE):
            self.told(case_with(2), (("b", "e"), WAYS, nought, levy), True)
            self.told(case_with(2), (("b", "e"), WAYS, PRICES, levy), True)
        self.told(case_with(2), (("b", "e"), WAYS, (("a", HUGE), ("c", 0), ("d", 0)), HUGE), True)

    def test_one_place(self):
        web = map_of(["m"], [])
        case = case_of(web, [("m", GREAT)], [("m", GREAT)], None)
        self.told(case, (("m",), (("m", "m"),), (("m", GREAT),), 0), True)
        self.told(case, (("m",), (("m", "m"),), (("m", GREAT + 1),), 0), False)

    def test_chance_papers(self):
        chance = random.Random(70)
        for turn in range(120):
            most = chance.choice((1, 3, 9, GREAT))
            case = even_case(chance, chance_web(chance, chance.randint(1, 10), most), most, (None, 1, 2, 3, 11))
            table = table_of_fars(case[0])
            opening, ways, prices, levy = chance_paper(chance, case, table, most)
            self.told(case, (opening, ways, prices, levy), True)
            for at in range(len(prices)):
                more = with_price(prices, at, prices[at][1] + 1)
                self.told(case, (opening, ways, more, levy), reckoned_stand(case, table, more, levy))

    def test_thirty_places_with_ten_sites_without_long_waiting(self):
        chance = random.Random(71)
        web = map_of(NAMES, [(one, other, chance.randint(1, 9)) for one, other, length in all_ways(NAMES, 1)])
        sites = [(place, chance.randint(0, 30)) for place in chance.sample(NAMES, 10)]
        case = case_of(web, sites, [(place, chance.randint(1, 9)) for place in NAMES], 4)
        table = table_of_fars(web)
        best = reckoned_best(case, table)[0]
        with within(20):
            for turn in range(20):
                paper = chance_paper(chance, case, table, 9)
                self.told(case, paper, True)
                least, most = span(case, paper)
                self.assertTrue(least <= best <= reckoned_cost(case, table, paper[0]) <= most)


class NotLetBy(Told):
    def setUp(self):
        self.paper = (("b", "e"), WAYS, PRICES, 0)

    def test_one_house_more_than_the_limit(self):
        for limit in (1, 2, 3):
            for opening in all_openings(case_with(None)):
                ways = tuple([(place, opening[0]) for place in "acd"])
                self.told(case_with(limit), (opening, ways, PRICES, 0), len(opening) <= limit)

    def test_the_opening(self):
        wrong = [
            ("e", "b"), ["b", "e"], ("b", "b", "e"), ("b", "e", "e"), ("b", "e", "b"), ("b", "d", "e"), ("a", "b", "e"),
            ("b", "e", "q"), ("b", "be", "e"), (), None, "be", ("be",), {"b": 1, "e": 1}, ("b", "e", None), (("b", "e"),),
            ("b", "c", "d", "e"), ("b", ["e"]), ("b", "E"), ("b", "e", 1), ("b", "e", True), True, 0,
        ]
        for limit in (None, 2, 11):
            self.one_part_refused(case_with(limit), self.paper, 0, wrong + odd_things())

    def test_a_going_to_a_site_that_is_not_open_or_to_none(self):
        for house in ["c", "a", "d", "q", "be", "", "E", ["b"], ("b",), None, 0, True, b"b"]:
            for at in range(3):
                ways = WAYS[:at] + ((WAYS[at][0], house),) + WAYS[at + 1:]
                self.told(case_with(None), (("b", "e"), ways, PRICES, 0), False)

    def test_goings_to_a_house_that_was_shut(self):
        self.told(case_with(None), (("b",), WAYS, PRICES, 0), False)
        self.told(case_with(None), (("e",), WAYS, PRICES, 0), False)
        self.told(case_with(None), (("c", "e"), WAYS, PRICES, 0), False)
        self.told(case_with(None), (("b", "c", "e"), WAYS, PRICES, 0), True)

    def test_the_goings(self):
        wrong = broken_rows(WAYS, ["a", "b", "c", "d", "e", "q"]) + odd_things()
        wrong += [tuple([(place, house, 1) for place, house in WAYS]), (("a", "b", 2), ("c", "b", 3), ("d", "e", 5))]
        for limit in (None, 2):
            self.one_part_refused(case_with(limit), self.paper, 1, wrong)

    def test_the_goings_of_one_place(self):
        case = case_of(WEB, SITES, [("c", 5)], None)
        paper = (("b", "e"), (("c", "e"),), (("c", 20),), 0)
        self.one_part_refused(case, paper, 1, broken_rows((("c", "e"),), ["a", "b", "q"]))
        self.one_part_refused(case, paper, 2, broken_rows((("c", 20),), ["a", "b", "q"]))

    def test_the_prices(self):
        for limit in (None, 2):
            self.one_part_refused(
                case_with(limit), self.paper, 2, broken_rows(PRICES, ["a", "b", "c", "d", "e", "q"]) + odd_things())
            for at in range(3):
                for price in (-1, -HUGE, True, False, None, "9", [9], (9,), PRICES[at][1] + 1, HUGE):
                    self.told(case_with(limit), (("b", "e"), WAYS, with_price(PRICES, at, price), 0), False)

    def test_a_price_too_much_or_a_levy_too_little(self):
        case = case_with(2)
        for at in range(3):
            more = with_price(PRICES, at, PRICES[at][1] + 7)
            self.told(case, (("b", "e"), WAYS, more, 7), True)
            self.told(case, (("b", "e"), WAYS, more, 6), False)
            self.told(case, (("b", "e"), WAYS, with_price(more, at, more[at][1] + 1), 7), False)

    def test_a_levy_without_a_limit(self):
        for levy in (1, 2, GREAT, HUGE):
            self.told(case_with(None), (("b", "e"), WAYS, PRICES, levy), False)

    def test_the_levy(self):
        things = [thing for thing in odd_things() if type(thing) is not int]
        wrong = things + [-1, -HUGE, True, False, "0", "", None, [0], (0,), {}]
        nought = (("a", 0), ("c", 0), ("d", 0))
        for limit in (None, 2):
            self.one_part_refused(case_with(limit), self.paper, 3, wrong)
            self.one_part_refused(case_with(limit), (("b", "e"), WAYS, nought, 0), 3, wrong)

    def test_a_paper_that_is_a_list_or_of_another_length(self):
        opening, ways, prices, levy = self.paper
        for case in (case_with(None), case_with(2)):
            for thing in (
                list(self.paper), self.paper[:3], self.paper[1:], self.paper + (0,), self.paper + (None,), (), (opening,),
                (opening, ways), (self.paper,), [self.paper], (opening, ways, levy, prices), (ways, opening, prices, levy),
                (opening, prices, ways, levy), self.paper[::-1], dict(enumerate(self.paper)), self.paper + self.paper,
                iter(self.paper), (opening, (ways, prices), levy), (opening, ways, (prices, levy)),
            ):
                self.told(case, thing, False)

    def test_things_of_every_kind(self):
        things = odd_things() + ["", "q", "b,e ; a>b c>b d>e ; a=9 c=20 d=16 ; 0", 1, GREAT, HUGE, [[]], ((),) * 4]
        for case in (case_with(None), case_with(2)):
            for thing in things:
                self.told(case, thing, False)
                self.told(case, (thing, thing, thing, thing), False)
                self.told(case, (thing, thing, thing, 0), False)
                for at in range(3):
                    self.told(case, self.paper[:at] + (thing,) + self.paper[at + 1:], False)
                for at in range(3):
                    ways = WAYS[:at] + (thing,) + WAYS[at + 1:]
                    # One of the things is the very row of goings from a to b.
                    self.told(case, (("b", "e"), ways, PRICES, 0), type(thing) is tuple and ways == WAYS)
                    for row in ((WAYS[at][0], thing), (thing, WAYS[at][1]), (thing, thing)):
                        self.told(case, (("b", "e"), WAYS[:at] + (row,) + WAYS[at + 1:], PRICES, 0), False)

    def test_right_ones_nested_in_something(self):
        for depth in (1, 2, 29):
            for wrap in (lambda inner: [inner], lambda inner: (inner,), lambda inner: {"a": inner}):
                self.told(case_with(None), nested(depth, wrap, self.paper), False)
                for at in range(4):
                    inner = nested(depth, wrap, self.paper[at])
                    self.told(case_with(None), self.paper[:at] + (inner,) + self.paper[at + 1:], False)

    def test_a_paper_of_another_case(self):
        self.told(case_with(None), self.paper, True)
        self.told(case_of(WEB, SITES[:2], FOLK, None), self.paper, False)
        self.told(case_of(WEB, SITES, FOLK[:2], None), self.paper, False)
        self.told(case_of(WEB, SITES, FOLK + [("e", 1)], None), self.paper, False)
        self.told(case_of(WEB, [("b", 9), ("c", 30), ("e", 20)], FOLK, None), self.paper, False)
        self.told(case_of(WEB, SITES, [("a", 3), ("c", 4), ("d", 2)], None), self.paper, False)
        self.told(case_of(WEB, SITES, [("a", 3), ("c", 6), ("d", 2)], None), self.paper, True)


class Span(unittest.TestCase):
    def told(self, case, paper, least, most):
        self.assertIs(lets_by(case, paper), True)
        answer = span(case, paper)
        self.assertEqual(answer, (least, most), paper)
        self.assertEqual([type(answer), type(answer[0]), type(answer[1])], [tuple, int, int])

    def test_the_low_is_that_of_the_prices(self):
        paper = (("b", "e"), WAYS, PRICES, 0)
        for limit in (None, 2, 3, GREAT):
            self.told(case_with(limit), paper, 45, 30 + 6 + 15 + 10)
        for limit, levy in ((2, 1), (2, 30), (3, 20), (GREAT, HUGE)):
            self.told(case_with(limit), (("b", "e"), WAYS, PRICES, levy), 45 - limit * levy, 61)

    def test_the_high_is_by_the_goings_of_the_paper(self):
        case = case_with(None)
        for ways, most in (
            ((("a", "b"), ("c", "c"), ("d", "c")), 60 + 6 + 0 + 8),
            ((("a", "e"), ("c", "e"), ("d", "e")), 60 + 42 + 45 + 10),
            ((("a", "c"), ("c", "b"), ("d", "b")), 60 + 15 + 15 + 14),
            ((("a", "b"), ("c", "b"), ("d", "b")), 60 + 6 + 15 + 14),
        ):
            self.told(case, (("b", "c", "e"), ways, PRICES, 0), 45, most)
        self.told(case, (("b",), (("a", "b"), ("c", "b"), ("d", "b")), PRICES, 0), 45, 45)

    def test_numbers_of_a_hundred_figures(self):
        web = map_of(["a", "b"], [("a", "b", GREAT)])
        case = case_of(web, [("a", GREAT), ("b", 0)], [("a", 1), ("b", GREAT)], GREAT)
        paper = (("a", "b"), (("a", "b"), ("b", "a")), (("a", HUGE), ("b", 0)), HUGE)
        self.told(case, paper, HUGE - GREAT * HUGE, GREAT + GREAT + GREAT * GREAT)

    def test_all_openings_of_small_cases_gone_through(self):
        chance = random.Random(72)
        for turn in range(150):
            most = chance.choice((1, 3, 9, GREAT))
            case = even_case(chance, chance_web(chance, chance.randint(1, 8), most), most, (None, 1, 2, 3, 11))
            table = table_of_fars(case[0])
            costs = {opening: cost(case, opening) for opening in all_openings(case)}
            for some in range(3):
                paper = chance_paper(chance, case, table, most)
                opening, ways, prices, levy = paper
                manys, charges = dict(case[2]), dict(case[1])
                high = sum([charges[house] for house in opening])
                high += sum([manys[place] * table[place, house] for place, house in ways])
                self.told(case, paper, reckoned_low(case, prices, levy), high)
                least, high = span(case, paper)
                self.assertTrue(all([least <= number for number in costs.values()]))
                self.assertTrue(min(costs.values()) <= costs[opening] <= high)


class HandedInAndTold(unittest.TestCase):
    def test_what_is_handed_in_stays(self):
        case = case_with(2)
        paper = (("b", "e"), WAYS, PRICES, 1)
        things = [
            paper, list(paper), (["e", "b"], WAYS, PRICES, 1), (("b", "e"), list(WAYS), PRICES, 1),
            (("b", "e"), WAYS, [list(row) for row in PRICES], 1), [[], {}], {"a": [1]},
        ]
        before = copy.deepcopy((case, things))
        for thing in things:
            lets_by(case, thing)
        span(case, paper)
        self.assertEqual((case, things), before)

    def test_what_was_handed_in_and_then_changed_changes_no_later_answer(self):
        case = case_with(None)
        paper = [("b", "e"), WAYS, PRICES, 0]
        self.assertIs(lets_by(case, paper), False)
        right = tuple(paper)
        paper[3] = 5
        self.assertIs(lets_by(case, right), True)
        self.assertEqual(span(case, right), (45, 61))

    def test_asked_again_the_same_is_told(self):
        paper, wrong = (("b", "e"), WAYS, PRICES, 0), (("b", "e"), WAYS, with_price(PRICES, 0, 10), 0)
        for turn in range(2):
            for case in (case_with(None), case_with(2)):
                self.assertIs(lets_by(case, paper), True)
                self.assertIs(lets_by(case, wrong), False)
                self.assertEqual(span(case, paper), (45, 61))


if __name__ == "__main__":
    unittest.main()
