"""[21] What a share costs, papers by fees, and the least share; [3] as far as it speaks of them; and [2] of these."""

import copy
import random
import unittest

from openhouses.cases import case_of
from openhouses.fees import fees_stand, least_share, low_by
from openhouses.maps import map_of
from openhouses.shares import is_lack, is_share
from reckoned import (
    all_openings, chance_rooms, chance_web, even_case, reckoned_is_share, reckoned_lacks, reckoned_shares, share_cost,
)
from things import all_ways, broken_rows, chance_tree, line_ways, nested, odd_things, shown, small_names, table_of_fars, within

GREAT = 10 ** 30 - 1
HUGE = 10 ** 100 - 1
# A line a b c d e with ways of 2, 3, 4 and 5.
WEB = map_of(list("abcde"), [("a", "b", 2), ("b", "c", 3), ("c", "d", 4), ("d", "e", 5)])
# To b it is 2, 3 and 7 from a, c and d; to d 9, 4 and 0.
CASE = case_of(WEB, [("b", 1), ("d", 1), ("e", 1)], [("a", 3), ("c", 4), ("d", 2)], None)
OPEN = ("b", "d")
PRICES = (("a", 3), ("c", 4), ("d", 0))
FEES = (("b", 1), ("d", 0))


def chance_small(chance, most, longest):
    """A case with its opening and rooms."""
    case = even_case(chance, chance_web(chance, chance.randint(1, 7), longest), most, (None, 2, 3))
    opening = chance.choice(all_openings(case))
    return case, table_of_fars(case[0]), opening, chance_rooms(chance, case, opening)


def reckoned_fees_stand(case, table, prices, fees):
    """Whether no price is more than the fee and the far together, of right rows."""
    return all([price <= fee + table[place, house] for place, price in prices for house, fee in fees])


def reckoned_low_by(case, rooms, prices, fees):
    paid, asked, total = dict(prices), dict(fees), 0
    for place, many in case[2]:
        total += many * paid[place]
    for house, room in rooms:
        total -= room * asked[house]
    return total


def chance_fees(chance, case, table, opening, most):
    """Prices and fees that stand: any fees, and prices as great as can be, or somewhat less, perhaps below 0."""
    fees = tuple([(house, chance.choice((0, chance.randint(0, most)))) for house in opening])
    prices = tuple([
        (place, min([fee + table[place, house] for house, fee in fees]) - chance.choice((0, 0, 1, chance.randint(0, most))))
        for place, many in case[2]])
    return prices, fees


class LeastShare(unittest.TestCase):
    def right(self, case, table, opening, rooms):
        """What is told is a share with prices and fees that show it, or a lack; its word is told."""
        told = least_share(case, opening, rooms)
        self.assertIs(type(told), tuple)
        if told[0] == "lack":
            self.assertEqual(len(told), 2)
            self.assertIs(type(told[1]), list)
            self.assertIs(is_lack(case, opening, rooms, None, told[1]), True)
            self.assertLess(sum([room for house, room in rooms]), sum([many for place, many in case[2]]))
            return "lack"
        word, share, prices, fees = told
        self.assertEqual((word, type(share), type(prices), type(fees)), ("share", list, tuple, tuple))
        self.assertTrue(reckoned_is_share(case, table, rooms, None, share), (case, rooms, share))
        self.assertIs(is_share(case, opening, rooms, None, share), True)
        self.assertIs(fees_stand(case, opening, prices, fees), True)
        self.assertTrue(reckoned_fees_stand(case, table, prices, fees))
        low = low_by(case, opening, rooms, prices, fees)
        self.assertEqual(low, reckoned_low_by(case, rooms, prices, fees))
        self.assertEqual(share_cost(table, share), low, (case, rooms, told))
        return "share"

    def cheapest(self, rooms):
        told = least_share(CASE, tuple([house for house, room in rooms]), rooms)
        self.assertEqual(self.right(CASE, table_of_fars(WEB), tuple([house for house, room in rooms]), rooms), "share")
        return share_cost(table_of_fars(WEB), told[1])

    def test_by_hand(self):
        # With room for all each goes to the nearest: 6 from a, 12 from c, nothing from d.
        self.assertEqual(self.cheapest((("b", 7), ("d", 2))), 18)
        self.assertEqual(self.cheapest((("b", 100), ("d", 100))), 18)
        # With each room less at b one of c's folk goes 1 farther, to d.
        self.assertEqual(self.cheapest((("b", 6), ("d", 3))), 19)
        self.assertEqual(self.cheapest((("b", 3), ("d", 6))), 22)
        # Then a's folk go 7 farther; and where d has too little room, c's folk to b, d's to b at last.
        self.assertEqual(self.cheapest((("b", 2), ("d", 7))), 29)
        self.assertEqual(self.cheapest((("b", 0), ("d", 9))), 43)
        self.assertEqual(self.cheapest((("b", 8), ("d", 1))), 25)
        self.assertEqual(self.cheapest((("b", 9), ("d", 0))), 32)
        # d's folk go to e, 5 farther, as soon as that is cheaper.
        self.assertEqual(self.cheapest((("b", 3), ("d", 4), ("e", 2))), 32)
        self.assertEqual(self.cheapest((("b", 7), ("d", 0), ("e", 2))), 28)

    def test_a_house_of_their_own_for_all(self):
        case = case_of(WEB, [("a", 1), ("d", 1)], [("a", 3), ("d", 4)], None)
        word, share, prices, fees = least_share(case, ("a", "d"), (("a", 3), ("d", 4)))
        self.assertEqual((word, share), ("share", [("a", "a", 3), ("d", "d", 4)]))
        self.assertEqual(low_by(case, ("a", "d"), (("a", 3), ("d", 4)), prices, fees), 0)

    def test_too_few_rooms(self):
        for rooms in ((0, 0), (8, 0), (0, 8), (4, 4), (1, 7)):
            self.assertEqual(self.right(CASE, table_of_fars(WEB), OPEN, tuple(zip(OPEN, rooms))), "lack")
        told = least_share(CASE, OPEN, (("b", 4), ("d", 4)))
        self.assertEqual(told, ("lack", ["a", "c", "d"]))

    def test_rooms_just_as_many_as_folk(self):
        for more in range(10):
            self.assertEqual(self.right(CASE, table_of_fars(WEB), OPEN, (("b", more), ("d", 9 - more))), "share")
            for last in range(10 - more):
                rooms = (("b", more), ("d", last), ("e", 9 - more - last))
                self.assertEqual(self.right(CASE, table_of_fars(WEB), ("b", "d", "e"), rooms), "share")

    def test_houses_no_one_needs(self):
        for rooms in ((9, 9, 0), (9, 9, 9), (0, 0, 9), (0, 9, 0), (9, 0, 0), (GREAT, GREAT, GREAT), (7, 2, 100)):
            self.assertEqual(self.right(CASE, table_of_fars(WEB), ("b", "d", "e"), tuple(zip("bde", rooms))), "share")

    def test_against_all_shares(self):
        chance = random.Random(210)
        dearer = 0
        for turn in range(250):
            case, table, opening, rooms = chance_small(chance, 2, chance.choice((1, 3, 9)))
            case = case_of(case[0], case[1], case[2][:3], case[3])
            if len(opening) > 3:
                continue
            shares = reckoned_shares(case, table, rooms, None)
            word = self.right(case, table, opening, rooms)
            self.assertEqual(word, "share" if shares else "lack")
            if shares:
                costs = [share_cost(table, share) for share in shares]
                self.assertEqual(share_cost(table, least_share(case, opening, rooms)[1]), min(costs))
                dearer += max(costs) > min(costs)
        self.assertGreater(dearer, 20)

    def test_chance_cases(self):
        chance = random.Random(211)
        seen = {"share": 0, "lack": 0}
        for turn in range(400):
            case, table, opening, rooms = chance_small(chance, chance.choice((1, 3, 9, GREAT)), chance.choice((1, 9, GREAT)))
            word = self.right(case, table, opening, rooms)
            self.assertEqual(word, "lack" if reckoned_lacks(case, table, rooms, None) else "share")
            seen[word] += 1
        self.assertGreater(min(seen.values()), 50)

    def test_ten_houses_and_thirty_places_without_long_waiting(self):
        chance = random.Random(212)
        names = small_names(30)
        webs = [
            map_of(names, [(one, other, chance.randint(1, GREAT)) for one, other, length in all_ways(names, 1)]),
            map_of(names, [(one, other, 2 ** chance.randint(0, 90)) for one, other, length in all_ways(names, 1)]),
            map_of(names, [(one, other, GREAT - 2 ** chance.randint(0, 80)) for one, other, length in all_ways(names, 1)]),
            map_of(names, line_ways(names, GREAT)),
            chance_tree(chance, 30, 9),
        ]
        for web in webs:
            table = table_of_fars(web)
            for turn in range(6):
                opening = tuple(sorted(chance.sample(web[0], 10)))
                numbers = chance.choice(([1, 2, 3], [2 ** turn for turn in range(90)], [chance.randint(1, GREAT) for turn in range(9)]))
                case = case_of(web, [(place, 1) for place in opening], [(place, chance.choice(numbers)) for place in web[0]], None)
                with within(20):
                    self.right(case, table, opening, chance_rooms(chance, case, opening))


class FeesStand(unittest.TestCase):
    def told(self, prices, fees, answer, case=CASE, opening=OPEN):
        self.assertIs(fees_stand(case, opening, prices, fees), answer, shown((prices, fees)))

    def test_a_price_just_at_the_fee_and_the_far_and_one_more(self):
        # a may pay 2 and b's fee, or 9 and d's; c 3 or 4; d 7 or 0.
        for fees, most in (((0, 0), (2, 3, 0)), ((1, 0), (3, 4, 0)), ((5, 0), (7, 4, 0)), ((100, 0), (9, 4, 0)),
                           ((0, 100), (2, 3, 7)), ((GREAT, GREAT), (GREAT + 2, GREAT + 3, GREAT)), ((HUGE, 2), (11, 6, 2))):
            rows = tuple(zip(OPEN, fees))
            prices = tuple(zip("acd", most))
            self.told(prices, rows, True)
            for at in range(3):
                for more, answer in ((1, False), (HUGE, False), (0, True), (-1, True), (-HUGE, True)):
                    changed = prices[:at] + ((prices[at][0], prices[at][1] + more),) + prices[at + 1:]
                    self.told(changed, rows, answer)

    def test_prices_below_0(self):
        for price in (-1, -GREAT, -HUGE):
            self.told((("a", price), ("c", price), ("d", price)), FEES, True)

    def test_a_fee_below_0(self):
        low = (("a", -HUGE), ("c", -HUGE), ("d", -HUGE))
        for fees in ((-1, 0), (0, -1), (-HUGE, 0)):
            self.told(low, tuple(zip(OPEN, fees)), False)
        self.told(low, (("b", 0), ("d", 0)), True)

    def test_each_house_however_far(self):
        # A house that nobody would go to holds the prices down, too.
        self.told(PRICES, FEES + (("e", 0),), True, opening=("b", "d", "e"))
        self.told((("a", 15), ("c", 0), ("d", 0)), (("b", 20), ("d", 20), ("e", 1)), True, opening=("b", "d", "e"))
        self.told((("a", 15), ("c", 0), ("d", 0)), (("b", 20), ("d", 20), ("e", 0)), False, opening=("b", "d", "e"))

    def test_broken_rows(self):
        low = (("a", 0), ("c", 0), ("d", 0))
        high = (("b", 10), ("d", 10))
        self.told(low, high, True)
        for thing in broken_rows(low, ("b", "e", "z")):
            self.told(thing, high, False)
        for thing in broken_rows(high, ("a", "c", "e", "z")):
            self.told(low, thing, False)

    def test_truths_and_texts_in_the_place_of_numbers(self):
        for thing in (True, False, "1", "", None, [], [0], (), (0,), {}, b"0"):
            self.told((("a", thing), ("c", 0), ("d", 0)), FEES, False)
            self.told((("a", 0), ("c", 0), ("d", thing)), FEES, False)
            self.told(PRICES, (("b", thing), ("d", 0)), False)
            self.told((("a", 0), ("c", 0), ("d", 0)), (("b", 10), ("d", thing)), False)

    def test_prices_and_fees_in_each_others_place(self):
        self.told(FEES, PRICES, False)
        self.told(PRICES, PRICES, False)
        self.told(FEES, FEES, False)
        both = case_of(WEB, [("b", 1), ("d", 1)], [("b", 1), ("d", 1)], None)
        self.told((("b", 0), ("d", 1)), (("b", 0), ("d", 1)), True, both)

    def test_things_of_every_kind(self):
        for thing in odd_things() + [1, GREAT, "", "q", "fees"]:
            self.told(thing, FEES, False)
            self.told(PRICES, thing, False)
            self.told(thing, thing, False)
            for row in (thing, (thing, 0), (thing, thing)):
                self.told((row,) + PRICES[1:], FEES, False)
                self.told(PRICES[:2] + (row,), FEES, False)
                self.told(PRICES, (row,) + FEES[1:], False)
            if type(thing) is not int:
                self.told((("a", thing),) + PRICES[1:], FEES, False)
                self.told(PRICES, FEES[:1] + (("d", thing),), False)

    def test_right_ones_nested_in_something(self):
        for depth in (1, 2, 27):
            for wrap in (lambda inner: [inner], lambda inner: (inner,), lambda inner: {"a": inner}):
                self.told(nested(depth, wrap, PRICES), FEES, False)
                self.told(PRICES, nested(depth, wrap, FEES), False)
                self.told(PRICES[:2] + (nested(depth, wrap, PRICES[2]),), FEES, False)
                self.told(PRICES, FEES[:1] + (("d", nested(depth, wrap, 0)),), False)

    def test_chance_fees(self):
        chance = random.Random(213)
        seen = {True: 0, False: 0}
        for turn in range(150):
            longest = chance.choice((1, 9, GREAT))
            case, table, opening, rooms = chance_small(chance, 9, longest)
            prices, fees = chance_fees(chance, case, table, opening, chance.choice((1, longest, HUGE)))
            self.told(prices, fees, True, case, opening)
            for at, (place, price) in enumerate(prices):
                more = prices[:at] + ((place, price + 1),) + prices[at + 1:]
                answer = reckoned_fees_stand(case, table, more, fees)
                seen[answer] += 1
                self.told(more, fees, answer, case, opening)
        self.assertGreater(min(seen.values()), 50)


class LowBy(unittest.TestCase):
    def test_by_hand(self):
        rooms = (("b", 5), ("d", 4))
        for prices, fees, least in (
            ((3, 4, 0), (1, 0), 9 + 16 - 5), ((2, 3, 0), (0, 0), 18), ((0, 0, 0), (0, 0), 0), ((0, 0, 0), (1, 2), -13),
            ((-1, 0, 0), (0, 0), -3), ((-1, -2, -3), (10, 10), -3 - 8 - 6 - 90), ((2, 3, 0), (HUGE, 0), 18 - 5 * HUGE),
            ((-HUGE, 0, 0), (0, 0), -3 * HUGE),
        ):
            told = low_by(CASE, OPEN, rooms, tuple(zip("acd", prices)), tuple(zip(OPEN, fees)))
            self.assertEqual((type(told), told), (int, least))

    def test_rooms_of_0_and_great_ones(self):
        self.assertEqual(low_by(CASE, OPEN, (("b", 0), ("d", 0)), PRICES, (("b", HUGE), ("d", HUGE))), 25)
        self.assertEqual(low_by(CASE, OPEN, (("b", GREAT), ("d", 0)), PRICES, (("b", 1), ("d", HUGE))), 25 - GREAT)

    def test_no_share_costs_less(self):
        chance = random.Random(214)
        below = 0
        for turn in range(200):
            case, table, opening, rooms = chance_small(chance, chance.choice((1, 3, 9)), chance.choice((1, 9)))
            prices, fees = chance_fees(chance, case, table, opening, 9)
            low = low_by(case, opening, rooms, prices, fees)
            self.assertEqual(low, reckoned_low_by(case, rooms, prices, fees))
            told = least_share(case, opening, rooms)
            if told[0] == "share":
                self.assertLessEqual(low, share_cost(table, told[1]))
                below += low < share_cost(table, told[1])
        self.assertGreater(below, 20)


class HandedInAndTold(unittest.TestCase):
    def test_what_is_handed_in_stays(self):
        rooms = (("b", 5), ("d", 4))
        things = [PRICES, FEES, list(PRICES), [list(row) for row in FEES], {"a": []}]
        before = copy.deepcopy((CASE, rooms, things))
        least_share(CASE, OPEN, rooms), low_by(CASE, OPEN, rooms, PRICES, FEES)
        for thing in things:
            fees_stand(CASE, OPEN, thing, FEES), fees_stand(CASE, OPEN, PRICES, thing)
        self.assertEqual((CASE, rooms, things), before)

    def test_lists_that_were_told_are_the_askers_own(self):
        for rooms in ((("b", 5), ("d", 4)), (("b", 1), ("d", 4))):
            before = copy.deepcopy(least_share(CASE, OPEN, rooms))
            least_share(CASE, OPEN, rooms)[1].clear()
            self.assertEqual(least_share(CASE, OPEN, rooms), before)


if __name__ == "__main__":
    unittest.main()
