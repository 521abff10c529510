"""[18] Covers and apart lists within a far, [19] the least far by so many; [3] as far as it speaks of them; [2] of these."""

import copy
import itertools
import random
import unittest

from openhouses.cases import case_of
from openhouses.covers import cover_within, is_apart, is_cover, least_far
from openhouses.errors import HouseError, NoCover
from openhouses.maps import map_of
from openhouses.trees import is_tree
from reckoned import chance_line, chance_web, even_case, site_places
from things import (
    all_ways, chance_map, chance_tree, line_ways, nested, odd_things, shown, small_names, table_of_fars, within,
)

GREAT = 10 ** 30 - 1
# A line a b c d e with ways of 2, 3, 4 and 5: it is 2, 5, 9 and 14 far from a.
WEB = map_of(list("abcde"), [("a", "b", 2), ("b", "c", 3), ("c", "d", 4), ("d", "e", 5)])
# To b it is 2, 3 and 12 from a, c and e; to d 9, 4 and 5.
CASE = case_of(WEB, [("b", 7), ("d", 0)], [("a", 3), ("c", 1), ("e", 2)], 1)


def folk_places(case):
    return [place for place, many in case[2]]


def all_covers(case, table, far):
    """All covers, the shorter ones first, else as lists compare."""
    sites, folk = site_places(case), folk_places(case)
    return [list(chosen) for many in range(1, len(sites) + 1) for chosen in itertools.combinations(sites, many)
            if all([any([table[place, site] <= far for site in chosen]) for place in folk])]


def all_aparts(case, table, far):
    """All apart lists, the longer ones first, else as lists compare."""
    sites, folk = site_places(case), folk_places(case)
    clash = [{one, other} for one, other in itertools.combinations(folk, 2)
             if any([table[one, site] <= far and table[other, site] <= far for site in sites])]
    return [list(chosen) for many in range(len(folk), -1, -1) for chosen in itertools.combinations(folk, many)
            if not any([pair <= set(chosen) for pair in clash])]


def telling_fars(case, table):
    """Fars at which something changes: 0, just as far as some site, one less and one more, and beyond all."""
    fars = {table[place, site] for place in folk_places(case) for site in site_places(case)}
    return sorted({0, max(fars) + 10, GREAT} | fars | {max(far - 1, 0) for far in fars} | {far + 1 for far in fars})


def chance_small(chance):
    most = chance.choice((1, 2, 5, GREAT))
    return even_case(chance, chance_web(chance, chance.randint(1, 7), most), most, (None, 1, 2, 11))


class CoverWithin(unittest.TestCase):
    def refused(self, case, far):
        with self.assertRaises(NoCover) as caught:
            cover_within(case, far)
        self.assertIsInstance(caught.exception, HouseError)

    def test_by_hand(self):
        self.assertEqual(cover_within(CASE, 12), (["b"], ["a"]))
        self.assertEqual(cover_within(CASE, 11), (["d"], ["a"]))
        self.assertEqual(cover_within(CASE, 9), (["d"], ["a"]))
        self.assertEqual(cover_within(CASE, 8), (["b", "d"], ["a", "e"]))
        self.assertEqual(cover_within(CASE, 5), (["b", "d"], ["a", "e"]))

    def test_no_cover(self):
        for far in (0, 1, 2, 3, 4):
            self.refused(CASE, far)

    def test_beyond_all(self):
        for far in (14, 15, 1000, GREAT):
            self.assertEqual(cover_within(CASE, far), (["b"], ["a"]))

    def test_a_far_of_0(self):
        case = case_of(WEB, [("b", 7), ("d", 0), ("e", 1)], [("b", 3), ("e", 1)], None)
        self.assertEqual(cover_within(case, 0), (["b", "e"], ["b", "e"]))
        self.refused(case_of(WEB, [("b", 7), ("d", 0)], [("b", 3), ("e", 1)], None), 0)
        one = case_of(map_of(["m"], []), [("m", 1)], [("m", 1)], None)
        self.assertEqual(cover_within(one, 0), (["m"], ["m"]))

    def test_the_limit_is_not_asked(self):
        for limit in (None, 1, 2, GREAT):
            case = case_of(*CASE[:3], limit)
            for far in (5, 8, 9, 12):
                self.assertEqual(cover_within(case, far), cover_within(CASE, far))
                self.assertIs(is_cover(case, far, ["b", "d"]), True)

    def test_of_several_covers_the_first_of_the_fewest(self):
        # c serves all, as does d; a and e do together, and a goes ahead of both.
        web = map_of(list("abcde"), line_ways("abcde", 1))
        case = case_of(web, [(name, 1) for name in "acde"], [("b", 1), ("e", 1)], None)
        self.assertEqual(cover_within(case, 2)[0], ["c"])
        self.assertEqual(cover_within(case, 1)[0], ["a", "d"])
        self.assertEqual(all_covers(case, table_of_fars(web), 1)[:4], [["a", "d"], ["a", "e"], ["c", "d"], ["c", "e"]])

    def test_of_several_apart_lists_the_first_of_the_most(self):
        # a clashes with b and with c; b and c don't.
        web = map_of(list("abcxy"), [("a", "x", 1), ("a", "y", 1), ("b", "x", 1), ("c", "y", 1)])
        case = case_of(web, [("x", 1), ("y", 1)], [("a", 1), ("b", 1), ("c", 1)], None)
        self.assertEqual(cover_within(case, 1), (["x", "y"], ["b", "c"]))
        case = case_of(web, [("x", 1), ("y", 1)], [("a", 1), ("b", 1)], None)
        self.assertEqual(cover_within(case, 1), (["x"], ["a"]))

    def test_an_apart_list_shorter_than_the_cover_on_a_ring(self):
        # Each two of the folk have a site of their own between them.
        ring = map_of(list("abcxyz"), line_ways("axbycz", 1) + [("a", "z", 1)])
        case = case_of(ring, [(name, 1) for name in "xyz"], [(name, 1) for name in "abc"], None)
        self.assertEqual(cover_within(case, 1), (["x", "y"], ["a"]))

    def test_chance_cases(self):
        chance = random.Random(180)
        seen = {True: 0, False: 0}
        for turn in range(120):
            case = chance_small(chance)
            table = table_of_fars(case[0])
            for far in chance.sample(telling_fars(case, table), 3):
                covers, aparts = all_covers(case, table, far), all_aparts(case, table, far)
                seen[bool(covers)] += 1
                if covers:
                    self.assertEqual(cover_within(case, far), (covers[0], aparts[0]))
                else:
                    self.refused(case, far)
        self.assertGreater(min(seen.values()), 30)

    def test_never_longer_than_a_cover_and_as_long_on_trees(self):
        chance = random.Random(181)
        for turn in range(150):
            make = chance.choice((chance_line, chance_tree, chance_map))
            web = make(chance, chance.randint(2, 12), chance.choice((1, 3, 9)))
            case = even_case(chance, web, 3, (None,))
            case = case_of(web, case[1], case[2][:12], None)
            far = chance.choice(telling_fars(case, table_of_fars(web)))
            try:
                cover, apart = cover_within(case, far)
            except NoCover:
                continue
            self.assertLessEqual(len(apart), len(cover))
            if is_tree(web):
                self.assertEqual(len(apart), len(cover))

    def test_kinds_of_what_is_told(self):
        told = cover_within(CASE, 9)
        self.assertEqual([type(told)] + [type(part) for part in told], [tuple, list, list])

    def test_ten_sites_and_twelve_places_without_long_waiting(self):
        chance = random.Random(182)
        names = small_names(30)
        webs = [
            map_of(names, [(one, other, chance.randint(1, GREAT)) for one, other, length in all_ways(names, 1)]),
            map_of(names, line_ways(names, 3)),
            chance_tree(chance, 30, 9),
        ]
        for web in webs:
            for turn in range(3):
                sites = [(place, 1) for place in chance.sample(names, 10)]
                case = case_of(web, sites, [(place, 1) for place in chance.sample(names, 12)], None)
                table = table_of_fars(web)
                for far in telling_fars(case, table)[::20]:
                    covers, aparts = all_covers(case, table, far), all_aparts(case, table, far)
                    with within(10):
                        if covers:
                            self.assertEqual(cover_within(case, far), (covers[0], aparts[0]))
                        else:
                            self.refused(case, far)

    def test_thirty_places_each_beside_one_site_without_long_waiting(self):
        names = small_names(30)
        ways = [(names[at], names[10 + at], 1) for at in range(20)] + line_ways(names[:10], 5)
        case = case_of(map_of(names, ways), [(name, 1) for name in names[:10]], [(name, 1) for name in names], None)
        with within(10):
            self.assertEqual(cover_within(case, 2), (names[:10], names[:10]))


class IsCover(unittest.TestCase):
    def told(self, case, far, thing, answer):
        self.assertIs(is_cover(case, far, thing), answer, shown((case[1:], far, thing)))

    def test_each_rising_list(self):
        chance = random.Random(183)
        for turn in range(40):
            case = chance_small(chance)
            table = table_of_fars(case[0])
            far = chance.choice(telling_fars(case, table))
            covers = all_covers(case, table, far)
            for many in range(len(case[1]) + 1):
                for chosen in itertools.combinations(site_places(case), many):
                    self.told(case, far, list(chosen), list(chosen) in covers)

    def test_by_hand(self):
        for far, thing, answer in (
            (8, ["b", "d"], True), (8, ["b"], False), (8, ["d"], False), (12, ["b"], True), (11, ["b"], False),
            (9, ["d"], True), (4, ["b", "d"], False), (5, ["b", "d"], True), (0, ["b", "d"], False), (GREAT, ["d"], True),
        ):
            self.told(CASE, far, thing, answer)

    def test_the_list_of_no_places(self):
        for far in (0, 5, GREAT):
            self.told(CASE, far, [], False)

    def test_falling_or_twice(self):
        for thing in (["d", "b"], ["b", "b"], ["b", "d", "d"], ["b", "b", "d"], ["b", "d", "b"], ["d", "d"]):
            self.told(CASE, GREAT, thing, False)

    def test_another_kind_in_the_place_of_the_list(self):
        for thing in (("b", "d"), ("b",), {"b": 1, "d": 2}, {"b", "d"}, frozenset("bd"), "bd", "b", "b,d", iter(["b", "d"]),
                      b"bd", {"b": ["d"]}):
            self.told(CASE, GREAT, thing, False)

    def test_a_place_that_is_no_site(self):
        for place in ("a", "c", "e", "z", "B", "", "bb", "bcdefgh", " b"):
            self.told(CASE, GREAT, [place], False)
            self.told(CASE, GREAT, sorted(["b", "d", place]), False)

    def test_things_of_every_kind(self):
        for thing in odd_things() + [0, 1, GREAT, "", "q"]:
            self.told(CASE, GREAT, thing, False)
            for inside in ([thing], [thing, "d"], ["b", thing], ["b", "d", thing], [thing, "b", "d"], [thing, thing]):
                self.told(CASE, GREAT, inside, False)

    def test_right_ones_nested_in_something(self):
        for depth in (1, 2, 29):
            for wrap in (lambda inner: [inner], lambda inner: (inner,), lambda inner: {"b": inner}):
                self.told(CASE, GREAT, nested(depth, wrap, ["b", "d"]), False)
                self.told(CASE, GREAT, ["b", nested(depth, wrap, "d")], False)


class IsApart(unittest.TestCase):
    def told(self, case, far, thing, answer):
        self.assertIs(is_apart(case, far, thing), answer, shown((case[1:], far, thing)))

    def test_each_rising_list(self):
        chance = random.Random(184)
        for turn in range(40):
            case = chance_small(chance)
            table = table_of_fars(case[0])
            far = chance.choice(telling_fars(case, table))
            aparts = all_aparts(case, table, far)
            for many in range(len(case[2]) + 1):
                for chosen in itertools.combinations(folk_places(case), many):
                    self.told(case, far, list(chosen), list(chosen) in aparts)

    def test_by_hand(self):
        for far, thing, answer in (
            (8, ["a", "e"], True), (9, ["a", "e"], False), (3, ["a", "c"], False), (2, ["a", "c"], True),
            (4, ["c", "e"], True), (5, ["c", "e"], False), (2, ["a", "c", "e"], True), (3, ["a", "c", "e"], False),
            (GREAT, ["c"], True), (0, ["a", "c", "e"], True),
        ):
            self.told(CASE, far, thing, answer)

    def test_the_list_of_no_places(self):
        for far in (0, 5, GREAT):
            self.told(CASE, far, [], True)

    def test_falling_or_twice(self):
        for thing in (["e", "a"], ["a", "a"], ["a", "e", "e"], ["c", "a", "e"], ["e", "c", "a"], ["a", "e", "a"]):
            self.told(CASE, 0, thing, False)

    def test_another_kind_in_the_place_of_the_list(self):
        for thing in (("a", "e"), ("a",), (), {}, {"a": 1, "e": 2}, {"a", "e"}, frozenset("ae"), set(), "ae", "a", "",
                      iter(["a", "e"]), b"ae", b"", {"a": ["e"]}):
            self.told(CASE, 0, thing, False)

    def test_a_place_that_is_not_the_folks(self):
        for place in ("b", "d", "z", "A", "", "aa", "abcdefg", " a"):
            self.told(CASE, 0, [place], False)
            self.told(CASE, 0, sorted(["a", "e", place]), False)

    def test_things_of_every_kind(self):
        for thing in odd_things() + [0, 1, GREAT, "", "q"]:
            if not (type(thing) is list and thing in ([], ["a"])):
                self.told(CASE, 0, thing, False)
            for inside in ([thing], [thing, "e"], ["c", thing], ["a", "c", thing], [thing, "c", "e"], [thing, thing]):
                self.told(CASE, 0, inside, False)

    def test_right_ones_nested_in_something(self):
        for depth in (1, 2, 29):
            for wrap in (lambda inner: [inner], lambda inner: (inner,), lambda inner: {"a": inner}):
                self.told(CASE, 0, nested(depth, wrap, ["a", "e"]), False)
                self.told(CASE, 0, ["a", nested(depth, wrap, "e")], False)


class LeastFar(unittest.TestCase):
    def test_by_hand(self):
        self.assertEqual(least_far(CASE, 1), (9, ["d"]))
        for many in (2, 3, 11, GREAT):
            self.assertEqual(least_far(CASE, many), (5, ["b", "d"]))

    def test_the_limit_is_not_asked(self):
        for limit in (None, 1, 2, GREAT):
            self.assertEqual(least_far(case_of(*CASE[:3], limit), 2), (5, ["b", "d"]))

    def test_0_where_each_place_has_a_site(self):
        case = case_of(WEB, [(name, 1) for name in "abde"], [("a", 1), ("d", 1), ("e", 1)], None)
        for many in (3, 4, 5):
            self.assertEqual(least_far(case, many), (0, ["a", "d", "e"]))
        self.assertEqual(least_far(case, 2), (5, ["a", "d"]))
        self.assertEqual(least_far(case_of(WEB, [("c", 1)], [("c", 1)], None), 1), (0, ["c"]))

    def test_the_cover_may_have_fewer(self):
        # The far that the farthest place needs lets the others do with fewer sites than so many.
        case = case_of(WEB, [("a", 1), ("b", 1), ("d", 1)], [("a", 1), ("b", 1), ("e", 1)], None)
        self.assertEqual(least_far(case, 3), (5, ["a", "d"]))
        self.assertEqual(least_far(case, 2), (5, ["a", "d"]))

    def test_chance_cases(self):
        chance = random.Random(185)
        for turn in range(100):
            case = chance_small(chance)
            table = table_of_fars(case[0])
            for many in sorted({1, 2, chance.randint(1, 10), len(case[1]), len(case[1]) + 1, GREAT}):
                enough = [far for far in telling_fars(case, table)
                          if any([len(cover) <= many for cover in all_covers(case, table, far)])]
                told = least_far(case, many)
                self.assertEqual(told, (min(enough), all_covers(case, table, min(enough))[0]))
                self.assertEqual(told[1], cover_within(case, told[0])[0])

    def test_kinds_of_what_is_told(self):
        told = least_far(CASE, 1)
        self.assertEqual([type(told)] + [type(part) for part in told], [tuple, int, list])

    def test_ten_sites_without_long_waiting(self):
        chance = random.Random(186)
        names = small_names(30)
        web = map_of(names, [(one, other, chance.randint(1, GREAT)) for one, other, length in all_ways(names, 1)])
        case = case_of(web, [(place, 1) for place in names[:10]], [(place, 1) for place in names[8:20]], None)
        table = table_of_fars(web)
        for many in (1, 5, 10):
            with within(10):
                far, cover = least_far(case, many)
            self.assertEqual(cover, all_covers(case, table, far)[0])
            self.assertLessEqual(len(cover), many)
            fewer = all_covers(case, table, far - 1)
            self.assertTrue(not fewer or len(fewer[0]) > many)


class HandedInAndTold(unittest.TestCase):
    def test_what_is_handed_in_stays(self):
        things = [["b", "d"], ["d", "b"], [["b"], "d"], {"b": []}, ["a", "e"]]
        before = copy.deepcopy((CASE, things))
        cover_within(CASE, 9), least_far(CASE, 1)
        for thing in things:
            is_cover(CASE, 9, thing), is_apart(CASE, 2, thing)
        self.assertEqual((CASE, things), before)

    def test_lists_that_were_told_are_the_askers_own(self):
        cover, apart = cover_within(CASE, 8)
        other = least_far(CASE, 2)[1]
        cover.clear(), apart.append("z"), other.reverse()
        self.assertEqual(cover_within(CASE, 8), (["b", "d"], ["a", "e"]))
        self.assertEqual(least_far(CASE, 2), (5, ["b", "d"]))

    def test_a_list_handed_in_and_then_changed_changes_no_later_answer(self):
        thing = ["b", "d"]
        self.assertIs(is_cover(CASE, 8, thing), True)
        thing.pop()
        self.assertIs(is_cover(CASE, 8, thing), False)
        self.assertIs(is_cover(CASE, 8, ["b", "d"]), True)


if __name__ == "__main__":
    unittest.main()
