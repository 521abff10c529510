"""[13] Trees of tries: when a leaf and when a tree holds for a number; [3] as far as it speaks of them; and [2] of these."""

import copy
import random
import unittest

from openhouses.cases import case_of
from openhouses.maps import map_of
from openhouses.tries import tries_hold
from reckoned import (
    chance_levy, chance_prices, chance_web, even_case, reckoned_best, reckoned_tree_low, site_places, with_price,
)
from things import all_ways, broken_rows, nested, odd_things, shown, small_names, table_of_fars, within

GREAT = 10 ** 30 - 1
HUGE = 10 ** 100 - 1
NAMES = small_names(30)
# A line a b c d e with ways of 2, 3, 4 and 5.
WEB = map_of(list("abcde"), [("a", "b", 2), ("b", "c", 3), ("c", "d", 4), ("d", "e", 5)])
FOLK = [("a", 3), ("c", 5), ("d", 2)]
# To b it costs 6 from a, 15 from c, 14 from d; to e 42, 45 and 10; to c 15, 0 and 8.
# By these b gets 10, e gets 6, c gets 28; their sum is 45.
PRICES = (("a", 9), ("c", 20), ("d", 16))
NOUGHT = (("a", 0), ("c", 0), ("d", 0))
LEAF = ("leaf", PRICES, 0)
JUNK = ("leaf", None, "levy")


def two_sites(limit, first=10, second=20):
    return case_of(WEB, [("b", first), ("e", second)], FOLK, limit)


def one_site(limit, charge=10):
    return case_of(WEB, [("b", charge)], FOLK, limit)


def chance_splits(chance, case, leaf, split=(), deep=0):
    """A tree with chance splits, its leaves by the function leaf."""
    left = [site for site in site_places(case) if site not in split]
    if not left or deep == 4 or chance.random() < 0.3:
        return leaf()
    site = chance.choice(left)
    first, second = [chance_splits(chance, case, leaf, split + (site,), deep + 1) for turn in range(2)]
    return ("split", site, first, second)


class Told(unittest.TestCase):
    def told(self, case, number, tree, answer):
        self.assertIs(tries_hold(case, number, tree), answer, shown((case[1:], number, tree)))

    def up_to(self, case, tree, number):
        """The tree holds for this number, and for none above."""
        for less in (0, 1, 2, 100, GREAT, HUGE):
            self.told(case, number - less, tree, True)
        for more in (1, 2, 100, GREAT, HUGE):
            self.told(case, number + more, tree, False)

    def for_none(self, case, tree):
        for number in (-HUGE, -GREAT, -1, 0, 1, 45, GREAT, HUGE):
            self.told(case, number, tree, False)

    def for_all(self, case, tree):
        for number in (-HUGE, -GREAT, -1, 0, 1, 45, GREAT, HUGE):
            self.told(case, number, tree, True)


class LeavesAlone(Told):
    def test_the_low_of_the_prices(self):
        for limit in (None, 1, 2, 11):
            self.up_to(two_sites(limit), LEAF, 45)
            self.up_to(two_sites(limit), ("leaf", NOUGHT, 0), 0)

    def test_with_a_levy(self):
        for limit in (1, 2, 11, GREAT):
            for levy in (1, 7, GREAT, HUGE):
                self.up_to(two_sites(limit), ("leaf", PRICES, levy), 45 - limit * levy)
                self.up_to(two_sites(limit), ("leaf", NOUGHT, levy), -limit * levy)
        more = (("a", 16), ("c", 20), ("d", 16))
        self.for_none(two_sites(2), ("leaf", more, 6))
        self.up_to(two_sites(2), ("leaf", more, 7), 52 - 14)
        self.up_to(two_sites(2), ("leaf", (("a", HUGE), ("c", 0), ("d", 0)), HUGE), HUGE - 2 * HUGE)

    def test_a_free_site_that_gets_1_too_much(self):
        for limit in (None, 1, 2):
            for at in range(3):
                self.for_none(two_sites(limit), ("leaf", with_price(PRICES, at, PRICES[at][1] + 1), 0))
            self.for_none(two_sites(limit, 9), LEAF)
            self.for_none(two_sites(limit, 10, 5), LEAF)
            self.up_to(two_sites(limit, 10, 6), LEAF, 45)

    def test_a_levy_without_a_limit(self):
        for levy in (1, 5, HUGE):
            self.for_none(two_sites(None), ("leaf", PRICES, levy))
            self.for_none(two_sites(None), ("leaf", NOUGHT, levy))


class LeavesBelowSplits(Told):
    def test_an_open_site_that_gets_more_less_and_just_its_cost(self):
        # The second branch shuts the only site, so that it holds whatever stands there.
        for limit in (None, 1, 2, 11):
            for charge, number in ((10, 45), (9, 44), (0, 35), (11, 46), (100, 135)):
                self.up_to(one_site(limit, charge), ("split", "b", LEAF, JUNK), number)

    def test_an_open_site_with_a_levy(self):
        # The low is 45 - limit * levy, and the cost and the levy less the 10 that b gets.
        for limit in (1, 2, 11):
            for charge, levy in ((10, 1), (3, 7), (0, 50), (12, GREAT), (0, HUGE)):
                tree = ("split", "b", ("leaf", PRICES, levy), JUNK)
                self.up_to(one_site(limit, charge), tree, 45 - limit * levy + charge + levy - 10)

    def test_all_folk_pay_their_way_to_the_open_site(self):
        # Then the low is what the opening costs.
        self.up_to(one_site(None), ("split", "b", ("leaf", (("a", 6), ("c", 15), ("d", 14)), 0), JUNK), 45)
        self.up_to(one_site(1), ("split", "b", ("leaf", (("a", 6), ("c", 15), ("d", 14)), HUGE), JUNK), 45)

    def test_a_price_above_the_way_to_an_open_site_gains_nothing(self):
        for more in (1, 10, HUGE - 20):
            for at in range(3):
                prices = with_price(PRICES, at, PRICES[at][1] + more)
                self.up_to(one_site(None), ("split", "b", ("leaf", prices, 0), JUNK), 45)

    def test_all_sites_shut(self):
        for limit in (None, 1, 5):
            for leaf in (JUNK, ("leaf", [], []), ("leaf", None, None), ("leaf", (), -1), ("leaf", "leaf", "leaf"), LEAF):
                self.up_to(one_site(limit), ("split", "b", LEAF, leaf), 45)
                tree = ("split", "e", ("split", "b", LEAF, LEAF), ("split", "b", LEAF, leaf))
                self.told(two_sites(limit, 10, 1000), 45, tree, True)
                tree = ("split", "b", ("split", "e", LEAF, LEAF), ("split", "e", LEAF, leaf))
                self.told(two_sites(limit, 10, 1000), 45, tree, True)

    def test_all_but_one_shut_is_not_all(self):
        for leaf in (JUNK, ("leaf", (), 0), ("leaf", PRICES, -1)):
            self.for_none(two_sites(None), ("split", "b", LEAF, leaf))
            self.for_none(two_sites(None), ("split", "e", LEAF, leaf))
            self.for_none(two_sites(None), leaf)

    def test_more_open_sites_than_the_limit(self):
        for leaf in (JUNK, ("leaf", [], []), ("leaf", None, None), ("leaf", with_price(PRICES, 0, HUGE), 0)):
            below = ("split", "b", ("split", "e", leaf, LEAF), ("split", "e", LEAF, JUNK))
            # With a limit of 1 all leaves hold but those with one open site, or none.
            self.told(two_sites(1, 10, 1000), 45, below, True)
        for leaf in (JUNK, ("leaf", [], [])):
            below = ("split", "b", ("split", "e", leaf, LEAF), ("split", "e", LEAF, JUNK))
            self.for_none(two_sites(2, 10, 1000), below)
            self.for_none(two_sites(None, 10, 1000), below)

    def test_as_many_open_sites_as_the_limit(self):
        # One open site of limit 1: the levy is paid and taken, so it may be as great as the free site asks for.
        ways = (("a", 6), ("c", 15), ("d", 14))
        tree = ("split", "b", ("leaf", ways, 4), ("split", "e", ("leaf", (("a", 42), ("c", 45), ("d", 10)), 0), JUNK))
        self.up_to(two_sites(1, 10, 0), tree, 45)
        tree = ("split", "b", ("leaf", ways, 3), ("split", "e", ("leaf", (("a", 42), ("c", 45), ("d", 10)), 0), JUNK))
        self.for_none(two_sites(1, 10, 0), tree)

    def test_a_free_site_that_gets_1_too_much(self):
        last = ("leaf", (("a", 42), ("c", 45), ("d", 10)), 0)
        for charge in (6, 7, 100):
            # e gets 6 by the prices, and is free where b is open.
            self.told(two_sites(None, 10, charge), 45, ("split", "b", LEAF, ("split", "e", last, JUNK)), True)
            self.told(two_sites(None, 10, charge), 46, ("split", "b", LEAF, ("split", "e", last, JUNK)), False)
        self.for_none(two_sites(None, 10, 5), ("split", "b", LEAF, ("split", "e", last, JUNK)))
        self.for_none(two_sites(None, 10, 0), ("split", "b", LEAF, ("split", "e", last, JUNK)))

    def test_a_shut_site_that_gets_more_than_its_cost(self):
        # Where b is shut, it may get as much as folk like to pay.
        pays = (("a", 42), ("c", 45), ("d", 10))
        for charge in (0, 1, 10):
            case = two_sites(None, charge, 20)
            tree = ("split", "b", ("leaf", (("a", 6), ("c", 15), ("d", 10)), 0), ("leaf", pays, 0))
            self.up_to(case, tree, min(31 + charge, 97))
            self.up_to(case, ("split", "e", ("leaf", NOUGHT, 0), ("leaf", NOUGHT, 0)), 0)
            self.for_none(case, ("split", "e", ("leaf", pays, 0), ("leaf", pays, 0)))
            self.for_none(case, ("leaf", pays, 0))

    def test_first_is_for_the_openings_with_the_site(self):
        pays = ("leaf", (("a", 42), ("c", 45), ("d", 10)), 0)
        ways = ("leaf", (("a", 6), ("c", 15), ("d", 10)), 0)
        case = two_sites(None, 10, 20)
        self.up_to(case, ("split", "b", ways, pays), 41)
        # Where b is open it gets 66 of 10, so the low is 97 - 56; where it is shut ways come to 31.
        self.up_to(case, ("split", "b", pays, ways), 31)
        self.up_to(case, ("split", "b", pays, pays), 41)
        self.up_to(case, ("split", "b", ways, ways), 31)
        case = one_site(None)
        self.for_none(case, ("split", "b", JUNK, LEAF))
        self.up_to(case, ("split", "b", LEAF, JUNK), 45)

    def test_one_leaf_of_many_that_does_not_hold(self):
        case = case_of(WEB, [("b", 10), ("c", 30), ("e", 20)], FOLK, None)
        trees = [("leaf", PRICES, 0)]
        for site in "bce":
            trees = [("split", site, first, second) for first in trees[:1] for second in trees[:1]]
        full = trees[0]
        self.told(case, 45, full, True)
        places = [(2, 2, 2), (2, 2, 3), (2, 3, 2), (2, 3, 3), (3, 2, 2), (3, 2, 3), (3, 3, 2)]
        for at in places:
            for leaf in (JUNK, ("leaf", NOUGHT, -1), ("leaf", PRICES, 1), None, ("leaf", PRICES[:2], 0), [], LEAF[:2]):
                self.for_none(case, put(full, at, leaf))
        for at in places:
            # Nothing is paid there, so the low is what the open houses cost.
            self.told(case, 61, put(full, at, ("leaf", NOUGHT, 0)), False)
            self.told(case, 0, put(full, at, ("leaf", NOUGHT, 0)), True)
        self.told(case, 45, put(full, (3, 3, 3), JUNK), True)


def put(tree, at, thing):
    """The tree with the thing at this spot of it."""
    if not at:
        return thing
    return tree[:at[0]] + (put(tree[at[0]], at[1:], thing),) + tree[at[0] + 1:]


class Splits(Told):
    def test_a_site_split_twice_on_one_way(self):
        case = two_sites(None)
        for inner in (("split", "b", LEAF, LEAF), ("split", "e", LEAF, ("split", "b", LEAF, LEAF)),
                      ("split", "e", ("split", "b", LEAF, LEAF), LEAF)):
            self.for_none(case, ("split", "b", inner, LEAF))
            self.for_none(case, ("split", "b", LEAF, inner))
        self.for_none(one_site(None), ("split", "b", LEAF, ("split", "b", JUNK, JUNK)))
        self.for_none(one_site(1), ("split", "b", ("split", "b", JUNK, JUNK), JUNK))

    def test_a_site_split_twice_where_more_are_open_than_the_limit(self):
        case = case_of(WEB, [("b", 10), ("c", 30), ("e", 20)], FOLK, 1)
        right = ("split", "b", ("split", "c", ("split", "e", JUNK, JUNK), LEAF), LEAF)
        self.told(case, 0, right, True)
        for site in ("b", "c"):
            self.for_none(case, ("split", "b", ("split", "c", ("split", site, JUNK, JUNK), LEAF), LEAF))

    def test_once_on_each_of_two_ways(self):
        case = case_of(WEB, [("b", 10), ("c", 30), ("e", 20)], FOLK, None)
        self.told(case, 45, ("split", "c", ("split", "b", LEAF, LEAF), ("split", "b", LEAF, LEAF)), True)
        self.told(case, 45, ("split", "c", ("split", "b", LEAF, LEAF), ("split", "e", LEAF, LEAF)), True)
        self.told(case, 45, ("split", "c", LEAF, ("split", "e", ("split", "b", LEAF, LEAF), LEAF)), True)

    def test_a_place_that_is_no_site(self):
        case = two_sites(None)
        self.told(case, 45, ("split", "b", LEAF, LEAF), True)
        for site in ["a", "c", "d", "q", "", "bb", "B", "b ", "be"] + odd_things():
            self.for_none_at_once(case, ("split", site, LEAF, LEAF))
            self.for_none_at_once(case, ("split", "b", ("split", site, LEAF, LEAF), LEAF))
            self.for_none_at_once(case, ("split", "b", LEAF, ("split", site, LEAF, LEAF)))

    def for_none_at_once(self, case, tree):
        for number in (-HUGE, 0):
            self.told(case, number, tree, False)

    def test_chance_trees(self):
        chance = random.Random(120)
        seen = {True: 0, False: 0}
        for turn in range(250):
            most = chance.choice((1, 3, 9, GREAT))
            case = even_case(chance, chance_web(chance, chance.randint(1, 8), most), most, (None, 1, 2, 3, 11))
            table = table_of_fars(case[0])

            def leaf():
                levy = chance_levy(chance, case, most)
                prices = chance_prices(chance, case, table, levy, chance.random() < 0.5)
                if chance.random() < 0.15:
                    at = chance.randrange(len(prices))
                    prices = with_price(prices, at, prices[at][1] + chance.choice((1, most)))
                return ("leaf", prices, levy)

            tree = chance_splits(chance, case, leaf)
            number = reckoned_tree_low(case, table, tree)
            seen[number is None] += 1
            if number is None:
                self.for_none(case, tree)
            else:
                self.up_to(case, tree, number)
                self.assertLessEqual(number, reckoned_best(case, table)[0])
        self.assertGreater(min(seen.values()), 30)

    def test_a_whole_tree_of_ten_sites_without_long_waiting(self):
        chance = random.Random(121)
        web = map_of(NAMES, [(one, other, chance.randint(1, 9)) for one, other, length in all_ways(NAMES, 1)])
        sites = [(place, chance.randint(0, 30)) for place in chance.sample(NAMES, 10)]
        case = case_of(web, sites, [(place, chance.randint(1, 9)) for place in NAMES], None)
        table = table_of_fars(web)

        def whole(left, opened):
            if not left:
                ways = [(place, many * min([table[place, house] for house in opened] or [0])) for place, many in case[2]]
                return ("leaf", tuple(ways), 0)
            return ("split", left[0], whole(left[1:], opened + left[:1]), whole(left[1:], opened))

        tree = whole(tuple(site_places(case)), ())
        best = reckoned_best(case, table)[0]
        with within(60):
            self.told(case, best, tree, True)
            self.told(case, best + 1, tree, False)


class WhateverIsHandedIn(Told):
    def wrong_branches(self):
        """Things that are no tree of tries, each of which holds for no number where some site is free or open."""
        wrong = [list(LEAF), LEAF[:2], LEAF + (0,), ("leaf",), (), ("leaves", PRICES, 0), ("", PRICES, 0)]
        wrong += [("Leaf", PRICES, 0), ("split", PRICES, 0), ("leaf", 0, PRICES), (PRICES, "leaf", 0), (PRICES, 0)]
        wrong += [("split", "b", LEAF), ("split", "b"), ("split",), ("split", LEAF, LEAF), ("split", "b", LEAF, LEAF, LEAF)]
        wrong += [["split", "b", LEAF, LEAF], ("leaf", "b", LEAF, LEAF), ("split", LEAF, LEAF, "b"), ("b", LEAF, LEAF)]
        wrong += [(b"leaf", PRICES, 0), (["leaf"], PRICES, 0), (("leaf",), PRICES, 0), (None, PRICES, 0), (True, PRICES, 0)]
        wrong += ["leaf", "split", "leaf(a=9 c=20 d=16;0)", 1, GREAT, (LEAF,), [LEAF], {"leaf": PRICES}, iter(LEAF), PRICES]
        wrong += [("leaf", prices, 0) for prices in broken_rows(PRICES, "abcdeq")]
        wrong += [("leaf", thing, 0) for thing in odd_things()]
        wrong += [("leaf", PRICES, thing) for thing in odd_things() + ["0", "", [0], (0,), -HUGE] if type(thing) is not int]
        wrong += [("leaf", PRICES, -1), ("leaf", PRICES, -GREAT)]
        for at in range(3):
            for price in (-1, True, False, None, "9", [9], (9,)):
                wrong.append(("leaf", with_price(PRICES, at, price), 0))
        return wrong + odd_things() + [(thing, PRICES, 0) for thing in odd_things()]

    def test_alone(self):
        for case in (two_sites(None), two_sites(1), two_sites(11)):
            self.told(case, 45, LEAF, True)
            for thing in self.wrong_branches():
                for number in (-HUGE, 0, 45):
                    self.told(case, number, thing, False)

    def test_at_any_leaf(self):
        # Each spot has an open site, or a free one.
        case = two_sites(None, 10, 1000)
        whole = ("split", "b", ("split", "e", LEAF, LEAF), ("split", "e", LEAF, LEAF))
        self.told(case, 45, whole, True)
        for at in ((2,), (3,), (2, 2), (2, 3), (3, 2)):
            for thing in self.wrong_branches():
                self.told(case, -HUGE, put(whole, at, thing), False)

    def test_what_is_no_tree_where_all_sites_are_shut_or_too_many_open(self):
        # There a leaf may have whatever second and third things, but it must be a leaf, or a split.
        for thing in odd_things() + ["leaf", (), ("leaf",), ("leaf", 1), ("leaf", 1, 2, 3), ["leaf", 1, 2], ("split", 1, 2)]:
            self.told(one_site(None), -HUGE, ("split", "b", LEAF, thing), False)
            self.told(one_site(None), 45, ("split", "b", LEAF, ("leaf", thing, thing)), True)
            tree = ("split", "b", ("split", "e", thing, LEAF), ("split", "e", LEAF, JUNK))
            self.told(two_sites(1, 10, 1000), -HUGE, tree, False)
            tree = ("split", "b", ("split", "e", ("leaf", thing, thing), LEAF), ("split", "e", LEAF, JUNK))
            self.told(two_sites(1, 10, 1000), 45, tree, True)

    def test_nested_up_to_thirty_deep(self):
        wraps = [
            lambda inner: ("split", "b", inner, inner), lambda inner: ("split", "b", inner, LEAF),
            lambda inner: ("split", "b", LEAF, inner), lambda inner: ("leaf", inner, inner), lambda inner: (inner,),
            lambda inner: ("leaf", PRICES, inner), lambda inner: ("split", inner, inner, inner), lambda inner: [inner],
            lambda inner: ("split", "e", ("split", "b", inner, inner), inner),
        ]
        for wrap in wraps:
            for depth in (2, 3, 10, 29):
                for inner in (LEAF, JUNK, None):
                    with within(20):
                        self.told(two_sites(None), -HUGE, nested(depth, wrap, inner), False)

    def test_right_ones_nested_in_something(self):
        for depth in (1, 2, 27):
            for wrap in (lambda inner: [inner], lambda inner: (inner,), lambda inner: {"leaf": inner}):
                for tree in (LEAF, ("split", "b", LEAF, LEAF)):
                    self.told(two_sites(None), 0, nested(depth, wrap, tree), False)
                    self.told(two_sites(None), 0, ("split", "b", nested(depth, wrap, tree), LEAF), False)
                    self.told(two_sites(None), 0, ("split", "b", LEAF, nested(depth, wrap, tree)), False)


class HandedInAndTold(unittest.TestCase):
    def test_what_is_handed_in_stays(self):
        things = [
            LEAF, ["leaf", [1], {}], ("split", "b", LEAF, ["leaf", PRICES, 0]), ("leaf", [list(row) for row in PRICES], 0),
            ("leaf", PRICES, [0]), ("split", ["b"], LEAF, LEAF), {"leaf": []},
        ]
        case = two_sites(1)
        before = copy.deepcopy((case, things))
        for thing in things:
            tries_hold(case, 5, thing)
        self.assertEqual((case, things), before)

    def test_asked_again_the_same_is_told(self):
        tree = ("split", "b", LEAF, LEAF)
        for turn in range(2):
            for case in (two_sites(None), two_sites(2)):
                self.assertIs(tries_hold(case, 45, tree), True)
                self.assertIs(tries_hold(case, 46, tree), False)
                self.assertIs(tries_hold(case, 45, LEAF), True)
            self.assertIs(tries_hold(one_site(None), 45, LEAF), True)


if __name__ == "__main__":
    unittest.main()
