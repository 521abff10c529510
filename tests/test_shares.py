"""[20] Rooms, shares and lacks; [3] as far as it speaks of them; and [2] of these."""

import copy
import random
import unittest

from openhouses.cases import case_of
from openhouses.maps import map_of
from openhouses.shares import is_lack, is_share, share_of
from reckoned import (
    all_openings, chance_rooms, chance_web, even_case, reckoned_is_share, reckoned_lacks, reckoned_shares,
)
from things import all_ways, nested, odd_things, shown, small_names, table_of_fars, within

GREAT = 10 ** 30 - 1
# A line a b c d e with ways of 2, 3, 4 and 5.
WEB = map_of(list("abcde"), [("a", "b", 2), ("b", "c", 3), ("c", "d", 4), ("d", "e", 5)])
# To b it is 2, 3 and 7 from a, c and d; to d 9, 4 and 0; to e 14, 9 and 5.
CASE = case_of(WEB, [("b", 1), ("d", 1), ("e", 1)], [("a", 3), ("c", 4), ("d", 2)], None)
OPEN = ("b", "d")
ROOMS = (("b", 5), ("d", 4))
# a has only b within 8; c and d share what is left.
SHARE = [("a", "b", 3), ("c", "b", 2), ("c", "d", 2), ("d", "d", 2)]


def chance_small(chance, most):
    """A case with its opening, rooms and a far, small enough for all sets of places."""
    web = chance_web(chance, chance.randint(1, 7), chance.choice((1, 2, 5)))
    case = even_case(chance, web, most, (None, 2, 3))
    opening = chance.choice(all_openings(case))
    table = table_of_fars(web)
    fars = [table[place, house] for place, many in case[2] for house in opening]
    far = chance.choice([None, None, 0, max(fars)] + fars + [max(far - 1, 0) for far in fars])
    return case, table, opening, chance_rooms(chance, case, opening), far


class ShareOf(unittest.TestCase):
    def right(self, case, table, opening, rooms, far):
        """What is told is a right share, or a right lack; its word is told."""
        told = share_of(case, opening, rooms, far)
        self.assertEqual([type(told), len(told)], [tuple, 2])
        word, rows = told
        self.assertIs(type(rows), list)
        if word == "share":
            self.assertTrue(reckoned_is_share(case, table, rooms, far, rows), (case, rooms, far, rows))
            self.assertEqual({type(row) for row in rows}, {tuple})
            self.assertEqual({type(many) for place, house, many in rows}, {int})
        else:
            self.assertEqual(word, "lack")
            self.assertIn(rows, reckoned_lacks(case, table, rooms, far))
        self.assertIs(is_share(case, opening, rooms, far, rows), word == "share")
        self.assertIs(is_lack(case, opening, rooms, far, rows), word == "lack")
        return word

    def test_by_hand(self):
        self.assertEqual(share_of(CASE, OPEN, ROOMS, 4), ("share", SHARE))
        self.assertEqual(share_of(CASE, OPEN, (("b", 3), ("d", 6)), 4), (
            "share", [("a", "b", 3), ("c", "d", 4), ("d", "d", 2)]))
        self.assertEqual(share_of(CASE, OPEN, (("b", 2), ("d", 100)), 4), ("lack", ["a"]))
        self.assertEqual(share_of(CASE, OPEN, (("b", 5), ("d", 3)), 4), ("lack", ["a", "c", "d"]))
        self.assertEqual(share_of(CASE, OPEN, (("b", 100), ("d", 1)), 4), ("lack", ["d"]))
        self.assertEqual(share_of(CASE, OPEN, (("b", 100), ("d", 100)), 2), ("lack", ["c"]))

    def test_rooms_of_0(self):
        for far in (None, 0, 4, GREAT):
            self.assertEqual(self.right(CASE, table_of_fars(WEB), OPEN, (("b", 0), ("d", 0)), far), "lack")
        self.assertEqual(share_of(CASE, OPEN, (("b", 0), ("d", 9)), None), (
            "share", [("a", "d", 3), ("c", "d", 4), ("d", "d", 2)]))
        self.assertEqual(share_of(CASE, OPEN, (("b", 0), ("d", 9)), 8), ("lack", ["a"]))

    def test_rooms_that_just_hold_all_and_one_too_few(self):
        table = table_of_fars(WEB)
        for more in range(10):
            self.assertEqual(self.right(CASE, table, OPEN, (("b", more), ("d", 9 - more)), None), "share")
        for more in range(9):
            self.assertEqual(self.right(CASE, table, OPEN, (("b", more), ("d", 8 - more)), None), "lack")

    def test_fars(self):
        table = table_of_fars(WEB)
        plenty = (("b", 100), ("d", 100))
        # a is 2 from b, c is 3 from b, and d has a house of its own.
        for far, word in ((None, "share"), (0, "lack"), (1, "lack"), (2, "lack"), (3, "share"), (4, "share"), (GREAT, "share")):
            self.assertEqual(self.right(CASE, table, OPEN, plenty, far), word, far)
        # Behind b's 3 rooms c needs d, which is 4 from it.
        for far, word in ((None, "share"), (3, "lack"), (4, "share"), (5, "share")):
            self.assertEqual(self.right(CASE, table, OPEN, (("b", 3), ("d", 6)), far), word, far)

    def test_a_far_of_0(self):
        case = case_of(WEB, [("b", 1), ("d", 1)], [("b", 3), ("d", 2)], None)
        for rooms, word in (((3, 2), "share"), ((2, 3), "lack"), ((3, 1), "lack"), ((GREAT, GREAT), "share")):
            told = self.right(case, table_of_fars(WEB), OPEN, tuple(zip(OPEN, rooms)), 0)
            self.assertEqual(told, word)

    def test_a_house_that_only_others_can_leave(self):
        # a and c want b first; d's folk must go to e so that c can go to d.
        rooms = (("b", 3), ("d", 4), ("e", 2))
        self.assertEqual(share_of(CASE, ("b", "d", "e"), rooms, 5), (
            "share", [("a", "b", 3), ("c", "d", 4), ("d", "e", 2)]))
        self.assertEqual(share_of(CASE, ("b", "d", "e"), (("b", 3), ("d", 4), ("e", 1)), 5), ("lack", ["a", "c", "d"]))
        self.assertEqual(share_of(CASE, ("b", "d", "e"), rooms, 4)[0], "lack")

    def test_one_place(self):
        case = case_of(map_of(["m"], []), [("m", 1)], [("m", GREAT)], 1)
        for far in (None, 0, GREAT):
            self.assertEqual(share_of(case, ("m",), (("m", GREAT),), far), ("share", [("m", "m", GREAT)]))
            self.assertEqual(share_of(case, ("m",), (("m", GREAT - 1),), far), ("lack", ["m"]))

    def test_chance_cases(self):
        chance = random.Random(200)
        seen = {"share": 0, "lack": 0}
        for turn in range(400):
            case, table, opening, rooms, far = chance_small(chance, chance.choice((1, 3, 9)))
            word = self.right(case, table, opening, rooms, far)
            # A share just where there is one: where no set of places has too little room.
            self.assertEqual(word, "lack" if reckoned_lacks(case, table, rooms, far) else "share")
            seen[word] += 1
        self.assertGreater(min(seen.values()), 80)

    def test_against_all_shares(self):
        chance = random.Random(201)
        seen = {"share": 0, "lack": 0}
        for turn in range(150):
            case, table, opening, rooms, far = chance_small(chance, 2)
            case = case_of(case[0], case[1], case[2][:3], case[3])
            if len(opening) > 3:
                continue
            shares = reckoned_shares(case, table, rooms, far)
            word = self.right(case, table, opening, rooms, far)
            seen[word] += 1
            self.assertEqual(word, "share" if shares else "lack")
            for share in shares[:50]:
                self.assertIs(is_share(case, opening, rooms, far, share), True)
        self.assertGreater(min(seen.values()), 20)

    def test_thirty_figures_without_long_waiting(self):
        chance = random.Random(202)
        names = small_names(30)
        web = map_of(names, [(one, other, chance.randint(1, GREAT)) for one, other, length in all_ways(names, 1)])
        seen = {"share": 0, "lack": 0}
        for turn in range(20):
            opening = tuple(sorted(chance.sample(names, 10)))
            folk = [(place, chance.choice((1, GREAT, chance.randint(1, GREAT)))) for place in names]
            case = case_of(web, [(place, 1) for place in opening], folk, None)
            table = table_of_fars(web)
            far = chance.choice((None, sorted(table.values())[len(table) // 3], sorted(table.values())[len(table) // 2]))
            rooms = chance_rooms(chance, case, opening)
            with within(10):
                word, rows = share_of(case, opening, rooms, far)
            seen[word] += 1
            if word == "share":
                self.assertTrue(reckoned_is_share(case, table, rooms, far, rows))
            else:
                near = [house for house in opening if any([far is None or table[place, house] <= far for place in rows])]
                self.assertGreater(
                    sum([many for place, many in folk if place in rows]), sum([dict(rooms)[house] for house in near]))
        self.assertGreater(min(seen.values()), 2)


class IsShare(unittest.TestCase):
    def told(self, thing, answer, far=4, rooms=ROOMS, opening=OPEN, case=CASE):
        self.assertIs(is_share(case, opening, rooms, far, thing), answer, shown((rooms, far, thing)))

    def with_row(self, at, row):
        return SHARE[:at] + [row] + SHARE[at + 1:]

    def test_right_ones(self):
        self.told(SHARE, True)
        self.told(SHARE, True, far=None)
        self.told([("a", "b", 3), ("c", "b", 1), ("c", "d", 3), ("d", "d", 1), ("d", "b", 1)], False, far=None)
        self.told([("a", "b", 3), ("c", "b", 1), ("c", "d", 3), ("d", "b", 1), ("d", "d", 1)], True, far=None)
        self.told([("a", "d", 3), ("c", "b", 4), ("d", "d", 1), ("d", "b", 1)], False, far=None)
        self.told([("a", "d", 3), ("c", "b", 4), ("d", "b", 1), ("d", "d", 1)], True, far=None)

    def test_not_sorted(self):
        for at in range(3):
            self.told(SHARE[:at] + [SHARE[at + 1], SHARE[at]] + SHARE[at + 2:], False)
        self.told(SHARE[::-1], False)

    def test_a_row_twice(self):
        for at in range(4):
            self.told(SHARE[:at] + [SHARE[at]] + SHARE[at:], False, rooms=(("b", 100), ("d", 100)))

    def test_two_rows_with_the_same_place_and_house(self):
        # All manys would come to what they shall.
        self.told([("a", "b", 1), ("a", "b", 2)] + SHARE[1:], False)
        self.told(SHARE[:1] + [("c", "b", 1), ("c", "b", 1)] + SHARE[2:], False)
        self.told(SHARE[:3] + [("d", "d", 1), ("d", "d", 1)], False)

    def test_a_many_that_is_none(self):
        self.told([("a", "b", 3), ("c", "b", 2), ("c", "d", 2), ("d", "b", 0), ("d", "d", 2)], False, far=None)
        self.told([("a", "b", 3), ("a", "d", 0)] + SHARE[1:], False, far=None)
        self.told([("a", "b", 4), ("a", "d", -1)] + SHARE[1:], False, far=None, rooms=(("b", 9), ("d", 9)))
        one = case_of(WEB, [("b", 1), ("d", 1)], [("a", 1), ("c", 1)], None)
        self.told([("a", "b", 1), ("c", "d", 1)], True, case=one)
        for thing in (True, "1", None, (1,), [1], b"1"):
            self.told([("a", "b", thing), ("c", "d", 1)], False, case=one)
            self.told([("a", "b", 1), ("c", "d", thing)], False, case=one)

    def test_a_place_without_folk(self):
        for place in ("b", "e", "z", "aa", "A", ""):
            self.told(sorted(SHARE + [(place, "d", 1)]), False, far=None, rooms=(("b", 100), ("d", 100)))
            self.told(sorted(SHARE[1:] + [(place, "b", 3)]), False, far=None)

    def test_a_house_that_is_shut_or_none(self):
        for house in ("a", "c", "e", "z", "bb", "B", ""):
            self.told(self.with_row(0, ("a", house, 3)), False, far=None)
            self.told(self.with_row(3, ("d", house, 2)), False, far=None)
            self.told(SHARE[:3] + sorted([("d", "d", 1), ("d", house, 1)]), False, far=None)

    def test_too_far(self):
        # c is 3 from b and 4 from d.
        self.told(SHARE, False, far=3)
        self.told(SHARE, False, far=0)
        moved = [("a", "b", 3), ("c", "b", 1), ("c", "d", 3), ("d", "b", 1), ("d", "d", 1)]
        for far, answer in ((None, True), (GREAT, True), (8, True), (7, True), (6, False), (4, False)):
            self.told(moved, answer, far=far)

    def test_not_all_folk_or_too_many(self):
        for at, (place, house, many) in enumerate(SHARE):
            self.told(SHARE[:at] + SHARE[at + 1:], False)
            self.told(self.with_row(at, (place, house, many - 1)), False)
            self.told(self.with_row(at, (place, house, many + 1)), False, rooms=(("b", 100), ("d", 100)))
            self.told(self.with_row(at, (place, house, many + GREAT)), False, rooms=(("b", 3 * GREAT), ("d", 3 * GREAT)))
        self.told([], False)

    def test_a_room_overfull(self):
        self.told(SHARE, False, rooms=(("b", 4), ("d", 100)))
        self.told(SHARE, False, rooms=(("b", 100), ("d", 3)))
        self.told(SHARE, False, rooms=(("b", 0), ("d", 0)))
        self.told(SHARE, True, rooms=(("b", 5), ("d", 100)))

    def test_another_kind_in_the_place_of_the_list_or_a_row(self):
        for thing in (tuple(SHARE), {row: 1 for row in SHARE}, set(SHARE), iter(SHARE), [SHARE], (SHARE,), "share",
                      ("share", SHARE), ["share", SHARE], {"share": SHARE}):
            self.told(thing, False)
        for at, (place, house, many) in enumerate(SHARE):
            for row in ([place, house, many], (place, house), (place, house, many, many), (place, house, many, None),
                        (house, place, many), (place, many, house), ((place, house), many), (place, (house, many)), (),
                        {place: many}, place, many, None, (place, house, str(many)), (place, [house], many),
                        ([place], house, many), (place, house, [many]), (None, house, many), (place, None, many)):
                if row != SHARE[at]:
                    self.told(self.with_row(at, row), False)

    def test_things_of_every_kind(self):
        for thing in odd_things() + [1, GREAT, "", "q", "share"]:
            self.told(thing, False)
            for row in (thing, (thing, "b", 3), ("a", thing, 3), (thing, thing, thing), (thing,)):
                self.told(self.with_row(0, row), False)
                self.told(SHARE + [row], False)
            if not (type(thing) is int and thing > 0):
                self.told(self.with_row(0, ("a", "b", thing)), False)

    def test_right_ones_nested_in_something(self):
        for depth in (1, 2, 27):
            for wrap in (lambda inner: [inner], lambda inner: (inner,), lambda inner: {"a": inner}):
                self.told(nested(depth, wrap, SHARE), False)
                self.told(self.with_row(1, nested(depth, wrap, SHARE[1])), False)
                for part in range(3):
                    row = list(SHARE[1])
                    row[part] = nested(depth, wrap, row[part])
                    self.told(self.with_row(1, tuple(row)), False)

    def test_chance_rows(self):
        chance = random.Random(203)
        seen = {True: 0, False: 0}
        for turn in range(300):
            case, table, opening, rooms, far = chance_small(chance, 3)
            word, rows = share_of(case, opening, rooms, None)
            if word == "share":
                for thing in (rows, chance.sample(rows, len(rows)), rows[1:]):
                    answer = reckoned_is_share(case, table, rooms, far, thing)
                    seen[answer] += 1
                    self.told(thing, answer, far, rooms, opening, case)
        self.assertGreater(min(seen.values()), 60)


class IsLack(unittest.TestCase):
    def told(self, thing, answer, rooms=ROOMS, far=4, opening=OPEN, case=CASE):
        self.assertIs(is_lack(case, opening, rooms, far, thing), answer, shown((rooms, far, thing)))

    def test_one_room_more(self):
        # a alone has only b; all together have both.
        for thing, rooms, answer in (
            (["a"], (2, 100), True), (["a"], (3, 100), False), (["d"], (100, 1), True), (["d"], (100, 2), False),
            (["a", "c"], (3, 3), True), (["a", "c"], (3, 4), False), (["a", "c", "d"], (4, 4), True),
            (["a", "c", "d"], (4, 5), False), (["a", "d"], (2, 2), True), (["a", "d"], (2, 3), False),
        ):
            self.told(thing, answer, tuple(zip(OPEN, rooms)))

    def test_fars(self):
        # c has b from 3 on and d from 4 on.
        rooms = (("b", 3), ("d", 1))
        for far, answer in ((0, True), (2, True), (3, True), (4, False), (5, False), (None, False), (GREAT, False)):
            self.told(["c"], answer, rooms, far)
        for far, answer in ((0, True), (1, True), (2, False), (None, False)):
            self.told(["a"], answer, rooms, far)

    def test_no_places(self):
        for rooms in ((("b", 0), ("d", 0)), ROOMS):
            self.told([], False, rooms)

    def test_turned_about_or_twice(self):
        none = (("b", 0), ("d", 0))
        self.told(["a", "c"], True, none)
        for thing in (["c", "a"], ["a", "a"], ["a", "c", "c"], ["a", "a", "c"], ["a", "c", "a"], ["d", "c", "a"]):
            self.told(thing, False, none)

    def test_a_place_that_is_not_the_folks(self):
        for place in ("b", "e", "z", "", "A", "aa", "abcdefg"):
            self.told([place], False, (("b", 0), ("d", 0)))
            self.told(sorted(["a", "c", place]), False, (("b", 0), ("d", 0)))

    def test_another_kind_in_the_place_of_the_list(self):
        for thing in (("a", "c"), ("a",), {"a": 1}, {"a"}, "a", "ac", iter(["a"]), ("lack", ["a"]), ["lack", ["a"]], b"a"):
            self.told(thing, False, (("b", 0), ("d", 0)))

    def test_things_of_every_kind(self):
        none = (("b", 0), ("d", 0))
        for thing in odd_things() + [1, GREAT, "", "q"]:
            if not (type(thing) is list and thing == ["a"]):
                self.told(thing, False, none)
            for inside in ([thing], [thing, "c"], ["a", thing], ["a", "c", thing], [thing, thing]):
                self.told(inside, False, none)

    def test_right_ones_nested_in_something(self):
        for depth in (1, 2, 29):
            for wrap in (lambda inner: [inner], lambda inner: (inner,), lambda inner: {"a": inner}):
                self.told(nested(depth, wrap, ["a", "c"]), False, (("b", 0), ("d", 0)))
                self.told(["a", nested(depth, wrap, "c")], False, (("b", 0), ("d", 0)))

    def test_each_rising_list_of_chance_cases(self):
        chance = random.Random(204)
        seen = {True: 0, False: 0}
        for turn in range(150):
            case, table, opening, rooms, far = chance_small(chance, 3)
            lacks = reckoned_lacks(case, table, rooms, far)
            folk = [place for place, many in case[2]]
            for turn in range(10):
                thing = sorted(chance.sample(folk, chance.randint(0, len(folk))))
                seen[thing in lacks] += 1
                self.told(thing, thing in lacks, rooms, far, opening, case)
        self.assertGreater(min(seen.values()), 100)


class HandedInAndTold(unittest.TestCase):
    def test_what_is_handed_in_stays(self):
        things = [list(SHARE), SHARE[::-1], [list(row) for row in SHARE], ["a", "c"], {"a": []}]
        before = copy.deepcopy((CASE, ROOMS, things))
        share_of(CASE, OPEN, ROOMS, 4), share_of(CASE, OPEN, (("b", 0), ("d", 3)), None)
        for thing in things:
            is_share(CASE, OPEN, ROOMS, 4, thing), is_lack(CASE, OPEN, ROOMS, 4, thing)
        self.assertEqual((CASE, ROOMS, things), before)

    def test_lists_that_were_told_are_the_askers_own(self):
        few = (("b", 2), ("d", 100))
        share_of(CASE, OPEN, ROOMS, 4)[1].clear()
        share_of(CASE, OPEN, few, 4)[1].append("z")
        self.assertEqual(share_of(CASE, OPEN, ROOMS, 4), ("share", SHARE))
        self.assertEqual(share_of(CASE, OPEN, few, 4), ("lack", ["a"]))


if __name__ == "__main__":
    unittest.main()
