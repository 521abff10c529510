"""[17] Exchanges, settled openings, and openings that are bettered; [3] as far as it speaks of them; and [2] of these."""

import copy
import random
import unittest

from openhouses.cases import case_of
from openhouses.costs import cost
from openhouses.exchanges import bettered, exchanges, is_settled
from openhouses.maps import map_of
from openhouses.openings import openings
from openhouses.plain import plain_best
from reckoned import all_openings, chance_web, even_case, outcomes, reckoned_cost, reckoned_settled
from things import all_ways, line_ways, small_names, table_of_fars, within

GREAT = 10 ** 30 - 1
LIMITS = (None, 1, 2, 3, 11, GREAT)
# A line a b c d with ways of 2, 3 and 4.
WEB = map_of(list("abcd"), [("a", "b", 2), ("b", "c", 3), ("c", "d", 4)])


def case_with(limit):
    return case_of(WEB, [("a", 3), ("c", 5), ("d", 1)], [("a", 1), ("b", 4), ("d", 2)], limit)


def chance_small(chance, limits=LIMITS):
    most = chance.choice((1, 3, 9, GREAT))
    return even_case(chance, chance_web(chance, chance.randint(1, 9), most), most, limits)


def outcome_of(opening, exchange):
    """What the exchange makes of the opening, as its words say."""
    kind, *sites = exchange
    inside = set(opening)
    if kind == "open":
        inside |= {sites[0]}
    elif kind == "shut":
        inside -= {sites[0]}
    else:
        inside = inside - {sites[0]} | {sites[1]}
    return tuple(sorted(inside))


def all_exchanges(case, opening):
    """All exchanges of the opening, from the openings that they come to."""
    found = []
    for other in outcomes(case, opening):
        out, more = sorted(set(opening) - set(other)), sorted(set(other) - set(opening))
        found.append(tuple([{(0, 1): "open", (1, 0): "shut", (1, 1): "swap"}[len(out), len(more)]] + out + more))
    return sorted(found)


def reckoned_row(case, opening):
    """The openings that one is bettered to, reckoned plainly."""
    table = table_of_fars(case[0])
    row = [opening]
    while not reckoned_settled(case, row[-1], table):
        choices = [(reckoned_cost(case, table, outcome_of(row[-1], exchange)), exchange)
                   for exchange in all_exchanges(case, row[-1])]
        row.append(outcome_of(row[-1], min(choices)[1]))
    return row


class Exchanges(unittest.TestCase):
    def test_by_hand_without_a_limit(self):
        # To a it costs 0, 8 and 18 from a, b and d; to c 5, 12 and 8; to d 9, 28 and 0.
        self.assertEqual(exchanges(case_with(None), ("a",)), [
            (("open", "c"), 24), (("open", "d"), 12), (("swap", "a", "c"), 30), (("swap", "a", "d"), 38)])
        self.assertEqual(exchanges(case_with(None), ("a", "d")), [
            (("open", "c"), 17), (("shut", "a"), 38), (("shut", "d"), 29), (("swap", "a", "c"), 23),
            (("swap", "d", "c"), 24)])

    def test_with_a_limit_that_is_reached(self):
        self.assertEqual(exchanges(case_with(1), ("a",)), [(("swap", "a", "c"), 30), (("swap", "a", "d"), 38)])
        self.assertEqual(exchanges(case_with(2), ("a", "d")), [
            (("shut", "a"), 38), (("shut", "d"), 29), (("swap", "a", "c"), 23), (("swap", "d", "c"), 24)])

    def test_with_a_limit_that_is_not_reached(self):
        for limit in (2, 3, 4, GREAT):
            self.assertEqual(exchanges(case_with(limit), ("a",)), exchanges(case_with(None), ("a",)))
        for limit in (3, 4, 11, GREAT):
            self.assertEqual(exchanges(case_with(limit), ("a", "d")), exchanges(case_with(None), ("a", "d")))

    def test_one_house_has_none_to_shut(self):
        for limit in LIMITS:
            for place in "acd":
                kinds = [exchange[0] for exchange, number in exchanges(case_with(limit), (place,))]
                self.assertNotIn("shut", kinds)
                self.assertEqual(kinds.count("swap"), 2)
                self.assertEqual(kinds.count("open"), 0 if limit == 1 else 2)

    def test_all_sites_have_none_to_open_or_swap(self):
        for limit in (None, 3, 4, 11, GREAT):
            told = exchanges(case_with(limit), ("a", "c", "d"))
            self.assertEqual([exchange for exchange, number in told], [("shut", "a"), ("shut", "c"), ("shut", "d")])

    def test_one_site(self):
        for limit in LIMITS:
            case = case_of(WEB, [("c", 5)], [("a", 1)], limit)
            self.assertEqual(exchanges(case, ("c",)), [])
            self.assertIs(is_settled(case, ("c",)), True)
            self.assertEqual(bettered(case, ("c",)), [("c",)])

    def test_names_that_are_beginnings_of_one_another(self):
        web = map_of(["b", "ab", "a", "aa"], line_ways(["b", "ab", "a", "aa"], 1))
        case = case_of(web, [(name, 1) for name in web[0]], [("a", 1)], None)
        told = [exchange for exchange, number in exchanges(case, ("aa", "b"))]
        self.assertEqual(told, [
            ("open", "a"), ("open", "ab"), ("shut", "aa"), ("shut", "b"), ("swap", "aa", "a"), ("swap", "aa", "ab"),
            ("swap", "b", "a"), ("swap", "b", "ab")])

    def test_chance_cases(self):
        chance = random.Random(170)
        for turn in range(60):
            case = chance_small(chance)
            opening = chance.choice(all_openings(case))
            told = exchanges(case, opening)
            self.assertEqual([exchange for exchange, number in told], all_exchanges(case, opening))
            self.assertEqual(told, sorted(told))
            for exchange, number in told:
                self.assertEqual(number, cost(case, outcome_of(opening, exchange)))

    def test_kinds_of_what_is_told(self):
        told = exchanges(case_with(None), ("a", "d"))
        self.assertIs(type(told), list)
        for row in told:
            self.assertEqual([type(part) for part in row], [tuple, int])

    def test_ten_sites_and_thirty_places_without_long_waiting(self):
        chance = random.Random(171)
        names = small_names(30)
        web = map_of(names, [(one, other, chance.randint(1, GREAT)) for one, other, length in all_ways(names, 1)])
        sites = [(place, chance.randint(0, GREAT)) for place in chance.sample(names, 10)]
        for limit, many in ((None, 35), (5, 30), (6, 35)):
            case = case_of(web, sites, [(place, chance.randint(1, GREAT)) for place in names], limit)
            opening = chance.choice([houses for houses in openings(case) if len(houses) == 5])
            with within(20):
                told = exchanges(case, opening)
                row = bettered(case, opening)
            self.assertEqual(len(told), many)
            self.assertEqual(row, reckoned_row(case, opening))


class Settled(unittest.TestCase):
    def test_one_that_is_not_best_on_a_ring(self):
        # To better it both houses would have to be swapped.
        ring = map_of(list("abcd"), [("a", "b", 3), ("a", "d", 3), ("b", "c", 4), ("c", "d", 4)])
        case = case_of(ring, [(name, 0) for name in "abcd"], [(name, 1) for name in "abcd"], 2)
        self.assertEqual(plain_best(case), (6, ("a", "c")))
        self.assertEqual(cost(case, ("b", "d")), 7)
        self.assertIs(is_settled(case, ("b", "d")), True)
        self.assertEqual(bettered(case, ("b", "d")), [("b", "d")])
        self.assertIs(is_settled(case_of(*case[:3], None), ("b", "d")), False)

    def test_one_that_is_not_best_on_a_ring_without_a_limit(self):
        ring = map_of(list("abcde"), [("a", "b", 1), ("b", "c", 1), ("c", "d", 2), ("d", "e", 1), ("a", "e", 2)])
        case = case_of(ring, [(name, 4) for name in "abcde"], [(name, 1) for name in "abcde"], None)
        self.assertEqual(plain_best(case), (11, ("b", "d")))
        self.assertEqual(cost(case, ("a",)), 12)
        self.assertIs(is_settled(case, ("a",)), True)
        self.assertEqual(bettered(case, ("a",)), [("a",)])

    def test_none_costs_less_but_one_as_much(self):
        web = map_of(list("abc"), line_ways("abc", 1))
        case = case_of(web, [("a", 2), ("c", 2)], [("b", 5)], None)
        for opening in (("a",), ("c",)):
            self.assertIs(is_settled(case, opening), True)
            self.assertEqual(bettered(case, opening), [opening])
        self.assertIs(is_settled(case, ("a", "c")), False)

    def test_by_each_kind_of_exchange(self):
        web = map_of(list("abc"), line_ways("abc", 10))
        for sites, limit, opening, answer in (
            ([("a", 1), ("c", 1)], None, ("a",), False),  # open c
            ([("a", 1), ("c", 20)], None, ("a",), True),
            ([("a", 1), ("c", 19)], None, ("a",), False),
            ([("a", 0), ("c", 0)], 1, ("a",), True),
            ([("a", 0), ("b", 0)], 1, ("a",), False),  # swap a for b
            ([("a", 0), ("b", 1), ("c", 5)], None, ("a", "b", "c"), True),
            ([("a", 0), ("b", 11), ("c", 5)], None, ("a", "b", "c"), False),  # shut b
            ([("a", 0), ("b", 10), ("c", 5)], None, ("a", "b", "c"), True),
        ):
            case = case_of(web, sites, [("a", 1), ("b", 1), ("c", 1)], limit)
            self.assertIs(is_settled(case, opening), answer, (sites, limit, opening))

    def test_chance_cases(self):
        chance = random.Random(172)
        seen = {True: 0, False: 0}
        for turn in range(150):
            case = chance_small(chance)
            table = table_of_fars(case[0])
            for opening in chance.sample(all_openings(case), min(6, len(all_openings(case)))):
                answer = reckoned_settled(case, opening, table)
                seen[answer] += 1
                self.assertIs(is_settled(case, opening), answer)
        self.assertGreater(min(seen.values()), 50)

    def test_the_plain_best_is_settled(self):
        chance = random.Random(173)
        for turn in range(80):
            case = chance_small(chance)
            opening = plain_best(case)[1]
            self.assertIs(is_settled(case, opening), True)
            self.assertEqual(bettered(case, opening), [opening])


class Bettered(unittest.TestCase):
    def test_by_hand(self):
        self.assertEqual(bettered(case_with(None), ("a",)), [("a",), ("a", "d")])
        self.assertEqual(bettered(case_with(None), ("c",)), [("c",), ("c", "d"), ("a", "d")])
        self.assertEqual(bettered(case_with(1), ("d",)), [("d",), ("a",)])
        self.assertEqual(bettered(case_with(None), ("a", "c", "d")), [("a", "c", "d"), ("a", "d")])

    def several(self, case, opening, first, others, last):
        """These exchanges cost the same, and least; the first as told is the one that is made."""
        told = dict(exchanges(case, opening))
        self.assertEqual([told[other] for other in others], [min(told.values())] * len(others))
        self.assertEqual(min(others), first)
        self.assertEqual(bettered(case, opening)[:2], [opening, outcome_of(opening, first)])
        self.assertEqual(bettered(case, opening)[-1], last)

    def test_of_several_of_least_cost_the_first_as_told(self):
        star = map_of(list("abcde"), [("c", name, 2) for name in "abde"])
        folk = [(name, 1) for name in "abde"]
        case = case_of(star, [(name, 0) for name in "abde"], folk, 2)
        self.several(case, ("e",), ("open", "a"), [("open", "a"), ("open", "b"), ("open", "d")], ("a", "e"))
        case = case_of(star, [("a", 8), ("b", 8), ("d", 8)], [("c", 1)], None)
        self.several(case, ("a", "b", "d"), ("shut", "a"), [("shut", "a"), ("shut", "b"), ("shut", "d")], ("d",))
        case = case_of(star, [("a", 3), ("b", 1), ("d", 1)], [("c", 1)], 1)
        self.several(case, ("a",), ("swap", "a", "b"), [("swap", "a", "b"), ("swap", "a", "d")], ("b",))

    def test_of_several_of_least_cost_open_goes_ahead_of_shut_and_swap(self):
        star = map_of(list("abcd"), [("a", "b", 9), ("a", "c", 5), ("a", "d", 9)])
        chance = random.Random(177)
        seen = {}
        for turn in range(600):
            case = case_of(star, [(name, chance.choice((0, 9, 10, 18, 19, 20))) for name in "abd"],
                           [(name, chance.randint(1, 2)) for name in "abcd"], chance.choice((None, 2)))
            for opening in all_openings(case):
                told = exchanges(case, opening)
                least = min([number for exchange, number in told])
                ties = [exchange for exchange, number in told if number == least]
                if least < cost(case, opening) and len(ties) > 1:
                    self.assertEqual(bettered(case, opening)[1], outcome_of(opening, ties[0]))
                    kinds = tuple([exchange[0] for exchange in ties])
                    seen[kinds] = seen.get(kinds, 0) + 1
        self.assertIn(("open", "swap"), seen)
        self.assertIn(("shut", "swap"), seen)

    def test_a_long_row(self):
        # Ten places in a row, far apart: each house more saves most where it is opened next.
        names = small_names(10)
        web = map_of(names, line_ways(names, 100))
        case = case_of(web, [(name, 1) for name in names], [(name, at + 1) for at, name in enumerate(names)], None)
        row = bettered(case, ("a",))
        self.assertEqual(row, reckoned_row(case, ("a",)))
        self.assertGreaterEqual(len(row), 10)
        self.assertEqual(row[-1], tuple(names))
        dear = case_of(web, [(name, GREAT) for name in names], [("a", 1)], None)
        row = bettered(dear, tuple(names))
        self.assertEqual([len(opening) for opening in row], list(range(10, 0, -1)))
        self.assertEqual(row, reckoned_row(dear, tuple(names)))
        self.assertEqual(row[-1], ("a",))

    def test_chance_cases(self):
        chance = random.Random(174)
        longest = 0
        for turn in range(80):
            case = chance_small(chance)
            opening = chance.choice(all_openings(case))
            row = bettered(case, opening)
            self.assertEqual(row, reckoned_row(case, opening))
            costs = [cost(case, houses) for houses in row]
            self.assertEqual(costs, sorted(set(costs), reverse=True))
            longest = max(longest, len(row))
        self.assertGreater(longest, 3)

    def test_kinds_of_what_is_told(self):
        row = bettered(case_with(None), ("c", "d"))
        self.assertEqual([type(row)] + [type(opening) for opening in row], [list] + [tuple] * len(row))


class TimesTheBest(unittest.TestCase):
    def test_three_times_without_a_limit(self):
        chance = random.Random(175)
        for turn in range(150):
            case = chance_small(chance, (None,))
            best = plain_best(case)[0]
            for opening in chance.sample(all_openings(case), min(4, len(all_openings(case)))):
                self.assertLessEqual(cost(case, bettered(case, opening)[-1]), 3 * best)

    def test_five_times_with_one_where_sites_cost_nothing(self):
        chance = random.Random(176)
        for turn in range(150):
            web, sites, folk, limit = chance_small(chance, (1, 2, 3, 4, 11))
            case = case_of(web, [(place, 0) for place, charge in sites], folk, limit)
            best = plain_best(case)[0]
            for opening in chance.sample(all_openings(case), min(4, len(all_openings(case)))):
                self.assertLessEqual(cost(case, bettered(case, opening)[-1]), 5 * best)


class HandedInAndTold(unittest.TestCase):
    def test_what_is_handed_in_stays(self):
        case, opening = case_with(2), ("a", "d")
        before = copy.deepcopy((case, opening))
        exchanges(case, opening), is_settled(case, opening), bettered(case, opening)
        self.assertEqual((case, opening), before)

    def test_lists_that_were_told_are_the_askers_own(self):
        case = case_with(None)
        told, row = exchanges(case, ("a",)), bettered(case, ("a",))
        told.clear()
        row[0] = ("d",)
        row.append(("c",))
        self.assertEqual(len(exchanges(case, ("a",))), 4)
        self.assertEqual(bettered(case, ("a",)), [("a",), ("a", "d")])
        self.assertIs(is_settled(case, ("a",)), False)

    def test_one_case_asked_between_questions_of_another(self):
        for turn in range(2):
            self.assertEqual(len(exchanges(case_with(None), ("a",))), 4)
            self.assertEqual(len(exchanges(case_with(1), ("a",))), 2)


if __name__ == "__main__":
    unittest.main()
