"""[4] Maps, and [2] as far as it speaks of what is handed in and told there."""

import copy
import itertools
import random
import unittest

from openhouses.errors import NoMap
from openhouses.maps import map_of
from things import all_ways, line_ways, nested, odd_things, shown, small_names

GREAT = 10 ** 30 - 1
PLACES = ["d", "b", "a", "c"]
WAYS = [("d", "a", 4), ("b", "a", 1), ("c", "b", 2), ("b", "d", GREAT)]
WEB = (("a", "b", "c", "d"), (("a", "b", 1), ("a", "d", 4), ("b", "c", 2), ("b", "d", GREAT)))


class RightMaps(unittest.TestCase):
    def test_one_place_without_ways(self):
        for places, ways in itertools.product((["a"], ("a",)), ([], ())):
            self.assertEqual(map_of(places, ways), (("a",), ()))

    def test_lists_and_tuples(self):
        for places, ways in itertools.product((PLACES, tuple(PLACES)), (WAYS, tuple(WAYS))):
            self.assertEqual(map_of(places, ways), WEB)

    def test_any_order_and_either_way_about(self):
        for places in itertools.permutations(PLACES):
            self.assertEqual(map_of(places, WAYS), WEB)
        for ways in itertools.permutations(WAYS):
            for turns in itertools.product((False, True), repeat=len(ways)):
                turned = [(way[1], way[0], way[2]) if turn else way for way, turn in zip(ways, turns)]
                self.assertEqual(map_of(PLACES, turned), WEB)

    def test_names_compare_as_texts(self):
        web = map_of(["b", "ab", "aaaaaa", "a"], [("b", "a", 1), ("ab", "aaaaaa", 2), ("b", "ab", 3)])
        self.assertEqual(web, (("a", "aaaaaa", "ab", "b"), (("a", "b", 1), ("aaaaaa", "ab", 2), ("ab", "b", 3))))

    def test_kinds_of_what_is_told(self):
        for web in (map_of(PLACES, WAYS), map_of(tuple(PLACES), tuple(WAYS)), map_of(["a"], [])):
            self.assertIs(type(web), tuple)
            self.assertEqual([type(part) for part in web], [tuple, tuple])
            self.assertTrue(all([type(way) is tuple and len(way) == 3 for way in web[1]]))

    def test_thirty_places(self):
        names = small_names(30)
        shuffled = random.Random(4).sample(names, 30)
        for ways in (line_ways(names, 1), all_ways(names, GREAT)):
            told = random.Random(5).sample(ways, len(ways))
            self.assertEqual(map_of(shuffled, told), (tuple(names), tuple(sorted(ways))))

    def test_a_map_makes_itself(self):
        self.assertEqual(map_of(WEB[0], WEB[1]), WEB)

    def test_least_and_great_lengths(self):
        for length in (1, 2, 10 ** 29, GREAT):
            self.assertEqual(map_of(["b", "a"], [("b", "a", length)]), (("a", "b"), (("a", "b", length),)))


class NoMaps(unittest.TestCase):
    def refused(self, places, ways):
        with self.assertRaises(NoMap, msg=shown((places, ways))):
            map_of(places, ways)

    def test_places_that_are_neither_a_list_nor_a_tuple(self):
        things = [thing for thing in odd_things() if type(thing) not in (list, tuple)]
        for thing in things + ["a", "ab", 1, {"a": 1, "b": 2}, {"a", "b"}, iter(["a", "b"])]:
            for ways in ([], (), [("a", "b", 1)]):
                self.refused(thing, ways)

    def test_ways_that_are_neither_a_list_nor_a_tuple(self):
        things = [thing for thing in odd_things() if type(thing) not in (list, tuple)]
        for thing in things + ["", "a", 1, {("a", "b", 1): 1}, {("a", "b", 1)}, iter([("a", "b", 1)])]:
            for places in (["a"], ["a", "b"]):
                self.refused(places, thing)

    def test_no_place_and_too_many(self):
        self.refused([], [])
        self.refused((), ())
        for many in (31, 32, 40):
            self.refused(small_names(many), line_ways(small_names(many), 1))
        self.refused(["a"] * 1000, [])

    def test_a_place_that_is_no_name(self):
        for thing in odd_things() + ["", "abcdefg", "A", "a ", " a", "a1", "a\n", "\u00e4"]:
            self.refused([thing], [])
            for at in range(3):
                places = ["a", "b"]
                places.insert(at, thing)
                self.refused(places, [("a", "b", 1)])

    def test_a_place_of_a_way_that_is_no_name_even_where_the_places_have_it(self):
        for thing in ("", "abcdefg", "B"):
            self.refused(["a", thing], [("a", thing, 1)])

    def test_a_place_there_twice(self):
        self.refused(["a", "a"], [])
        self.refused(["a", "b", "a"], [("a", "b", 1)])
        self.refused(("b", "a", "b"), (("a", "b", 1),))

    def test_a_way_that_is_no_tuple_of_three(self):
        things = odd_things() + ["", "ab", "abc", 1, ["a", "b", 1], {"a": 1, "b": 2, "c": 3}]
        things += [("a", "b"), ("a", 1), ("a", "b", 1, 1), ("a", "b", 1, "c"), ("a", "b", "c", 1), (("a", "b", 1),)]
        for thing in things:
            self.refused(["a", "b"], [thing])
            self.refused(["a", "b", "c"], [("a", "b", 1), ("b", "c", 1), thing])
            self.refused(["a", "b", "c"], (thing, ("a", "b", 1), ("b", "c", 1)))

    def test_a_length_that_is_none(self):
        for thing in odd_things() + ["", "1", "a", -GREAT]:
            self.refused(["a", "b"], [("a", "b", thing)])
            self.refused(["a", "b", "c"], [("a", "b", 1), ("b", "c", 1), ("a", "c", thing)])

    def test_a_way_to_what_is_no_place(self):
        for thing in odd_things() + ["", "d", "A", "aa", "abcdefg", 1]:
            for way in (("a", thing, 1), (thing, "a", 1), ("b", thing, 1), (thing, thing, 1)):
                self.refused(["a", "b"], [("a", "b", 1), way])
                self.refused(["a", "b"], [way])

    def test_a_way_from_a_place_to_itself(self):
        self.refused(["a"], [("a", "a", 1)])
        self.refused(["a", "b"], [("a", "b", 1), ("b", "b", 1)])

    def test_two_ways_with_the_same_two(self):
        for second in (("a", "b", 1), ("b", "a", 1), ("a", "b", 2), ("b", "a", 2)):
            self.refused(["a", "b"], [("a", "b", 1), second])
            self.refused(["a", "b", "c"], [("b", "a", 1), ("b", "c", 1), second])

    def test_places_to_which_no_ways_lead(self):
        self.refused(["a", "b"], [])
        self.refused(["a", "b", "c"], [("a", "b", 1)])
        self.refused(["a", "b", "c"], [("b", "c", 1)])
        self.refused(["a", "b", "c", "d"], [("a", "b", 1), ("c", "d", 1)])
        # As many ways as could join all: but they make a ring, and leave one place out.
        self.refused(["a", "b", "c", "d"], [("a", "b", 1), ("b", "c", 1), ("a", "c", 1)])
        names = small_names(30)
        for at in range(29):
            ways = line_ways(names, 1)
            del ways[at]
            self.refused(names, ways)

    def test_right_ones_nested_in_something(self):
        for depth in (1, 2, 30):
            for wrap in (lambda inner: [inner], lambda inner: (inner,)):
                self.refused(nested(depth, wrap, ["a", "b"]), [("a", "b", 1)])
                self.refused(["a", "b"], nested(depth, wrap, [("a", "b", 1)]))


class HandedInAndTold(unittest.TestCase):
    def test_what_is_handed_in_stays_and_may_be_changed(self):
        places, ways = list(PLACES), list(WAYS)
        web = map_of(places, ways)
        self.assertEqual((places, ways), (PLACES, WAYS))
        places.append("zz")
        places[0] = "q"
        ways.clear()
        self.assertEqual(web, WEB)
        self.assertEqual(map_of(PLACES, WAYS), WEB)

    def test_what_is_refused_stays(self):
        for places, ways in ((["b", "a", "a"], []), (["b", "a"], [("b", "a", 1), ("a", "b", 1)]), (["b", "a"], [["b"]])):
            before = copy.deepcopy((places, ways))
            with self.assertRaises(NoMap):
                map_of(places, ways)
            self.assertEqual((places, ways), before)


if __name__ == "__main__":
    unittest.main()
