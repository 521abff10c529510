"""[5] How far it is, and the path that is told; and [2] as far as it speaks of these."""

import copy
import itertools
import random
import unittest

from openhouses.fars import far, fars, path
from openhouses.maps import map_of
from things import all_ways, chance_map, lengths_of, line_ways, small_names, table_of_fars, within

GREAT = 10 ** 30 - 1


def tried_paths(web, one, other):
    """All walks from the one to the other that come to no place twice, as tuples (sum, list)."""
    lengths = lengths_of(web)
    done, begun = [], [(0, [one])]
    while begun:
        so_far, walk = begun.pop()
        if walk[-1] == other:
            done.append((so_far, walk))
            continue
        for place in web[0]:
            if place not in walk and (walk[-1], place) in lengths:
                begun.append((so_far + lengths[walk[-1], place], walk + [place]))
    return done


def first_paths(web, other):
    """The first path from each place to the other, reckoned from the near places to the distant ones."""
    table, lengths = table_of_fars(web), lengths_of(web)
    told = {other: [other]}
    for place in sorted(web[0], key=lambda name: table[name, other]):
        if place != other:
            told[place] = min([
                [place] + told[step] for step in web[0]
                if (place, step) in lengths and lengths[place, step] + table[step, other] == table[place, other]
            ])
    return told


def grid_map(names, wide):
    """A grid of the names, row by row, all ways of length 1: very many paths of one sum."""
    ways = [(names[at], names[at + wide], 1) for at in range(len(names) - wide)]
    ways += [(names[at], names[at + 1], 1) for at in range(len(names) - 1) if (at + 1) % wide]
    return map_of(names, ways)


class Asked(unittest.TestCase):
    def asked_of_all(self, web):
        """All that is asked of a map agrees with what is reckoned another way."""
        table = table_of_fars(web)
        for one in web[0]:
            told = fars(web, one)
            self.assertIs(type(told), dict)
            self.assertEqual(told, {other: table[one, other] for other in web[0]})
        for other in web[0]:
            firsts = first_paths(web, other)
            for one in web[0]:
                self.assertEqual(far(web, one, other), table[one, other])
                self.assertIs(type(far(web, one, other)), int)
                told = path(web, one, other)
                self.assertIs(type(told), list)
                self.assertEqual(told, firsts[one])


class Fars(Asked):
    def test_from_a_place_to_itself(self):
        self.assertEqual(far(map_of(["a"], []), "a", "a"), 0)
        self.assertEqual(fars(map_of(["a"], []), "a"), {"a": 0})
        web = map_of(["a", "b", "c"], [("a", "b", 3), ("b", "c", 1)])
        for place in web[0]:
            self.assertEqual(far(web, place, place), 0)
            self.assertEqual(fars(web, place)[place], 0)

    def test_a_neighbour_by_a_longer_way_than_over_others(self):
        web = map_of(["a", "b", "c", "d"], [("a", "d", 10), ("a", "b", 2), ("b", "c", 3), ("c", "d", 4)])
        self.assertEqual(fars(web, "a"), {"a": 0, "b": 2, "c": 5, "d": 9})
        self.assertEqual(fars(web, "d"), {"a": 9, "b": 7, "c": 4, "d": 0})
        self.assertEqual((far(web, "a", "d"), far(web, "d", "a")), (9, 9))

    def test_few_long_ways_against_many_short_ones(self):
        names = small_names(30)
        web = map_of(names, line_ways(names, 1) + [(names[0], names[29], 30)])
        self.assertEqual(far(web, names[0], names[29]), 29)
        web = map_of(names, line_ways(names, 1) + [(names[0], names[29], 28)])
        self.assertEqual(far(web, names[0], names[29]), 28)
        self.assertEqual(path(web, names[0], names[29]), [names[0], names[29]])

    def test_over_a_line_of_thirty(self):
        names = random.Random(6).sample(small_names(30), 30)
        for length in (1, GREAT):
            web = map_of(names, line_ways(names, length))
            for one in range(30):
                told = fars(web, names[one])
                self.assertEqual(told, {names[other]: abs(one - other) * length for other in range(30)})
                self.assertEqual(path(web, names[0], names[one]), names[:one + 1])
                self.assertEqual(path(web, names[one], names[0]), names[one::-1])

    def test_lengths_of_thirty_figures_to_the_last_figure(self):
        web = map_of(["a", "b", "c"], [("a", "b", GREAT), ("b", "c", 10 ** 29), ("a", "c", GREAT + 10 ** 29)])
        self.assertEqual(far(web, "a", "c"), GREAT + 10 ** 29)
        self.assertEqual(path(web, "a", "c"), ["a", "b", "c"])
        web = map_of(["a", "b", "c"], [("a", "b", GREAT), ("b", "c", 10 ** 29), ("a", "c", GREAT + 10 ** 29 - 1)])
        self.assertEqual(far(web, "c", "a"), GREAT + 10 ** 29 - 1)
        self.assertEqual(path(web, "a", "c"), ["a", "c"])

    def test_all_of_chance_maps(self):
        chance = random.Random(7)
        for turn in range(60):
            self.asked_of_all(chance_map(chance, chance.randint(1, 12), chance.choice((1, 2, 5, 100, GREAT))))

    def test_all_of_great_chance_maps(self):
        chance = random.Random(8)
        for most in (1, 3, GREAT):
            self.asked_of_all(chance_map(chance, 30, most))


class Paths(Asked):
    def test_from_a_place_to_itself(self):
        self.assertEqual(path(map_of(["a"], []), "a", "a"), ["a"])
        web = map_of(["a", "b", "c"], [("a", "b", 1), ("b", "c", 1)])
        for place in web[0]:
            self.assertEqual(path(web, place, place), [place])

    def test_the_first_of_several(self):
        web = map_of(list("abcd"), [("a", "b", 1), ("a", "c", 1), ("b", "d", 1), ("c", "d", 1)])
        self.assertEqual(path(web, "a", "d"), ["a", "b", "d"])
        self.assertEqual(path(web, "d", "a"), ["d", "b", "a"])

    def test_the_way_back_may_be_another_one(self):
        # Both paths are 3 long; each end has its own first neighbour.
        web = map_of(list("abcdxy"), [("x", "a", 1), ("a", "d", 1), ("d", "y", 1),
                                      ("x", "c", 1), ("c", "b", 1), ("b", "y", 1)])
        self.assertEqual(path(web, "x", "y"), ["x", "a", "d", "y"])
        self.assertEqual(path(web, "y", "x"), ["y", "b", "c", "x"])

    def test_a_way_straight_there_as_long_as_one_over_others(self):
        web = map_of(["a", "b", "c"], [("a", "b", 1), ("b", "c", 1), ("a", "c", 2)])
        self.assertEqual(path(web, "a", "c"), ["a", "b", "c"])
        self.assertEqual(path(web, "c", "a"), ["c", "a"])
        web = map_of(["a", "b", "c"], [("a", "b", 2), ("b", "c", 1), ("a", "c", 1)])
        self.assertEqual(path(web, "a", "b"), ["a", "b"])
        self.assertEqual(path(web, "b", "a"), ["b", "a"])

    def test_names_compare_as_texts(self):
        web = map_of(["a", "ab", "b", "z"], [("z", "b", 1), ("z", "ab", 1), ("b", "a", 1), ("ab", "a", 1)])
        self.assertEqual(path(web, "z", "a"), ["z", "ab", "a"])

    def test_the_first_of_all_that_can_be_tried(self):
        chance = random.Random(9)
        for turn in range(60):
            web = chance_map(chance, chance.randint(1, 7), chance.choice((1, 2, 3)))
            for one, other in itertools.product(web[0], repeat=2):
                length, walk = min(tried_paths(web, one, other))
                self.assertEqual((far(web, one, other), path(web, one, other)), (length, walk))

    def test_between_each_two_of_thirty_without_long_waiting(self):
        names = small_names(30)
        for length in (1, GREAT):
            web = map_of(names, all_ways(names, length))
            with within(60):
                for one, other in itertools.product(names, repeat=2):
                    straight = [one] if one == other else [one, other]
                    self.assertEqual(path(web, one, other), straight)
                    self.assertEqual(far(web, one, other), length * (len(straight) - 1))

    def test_as_many_paths_as_can_be_without_long_waiting(self):
        # Each way is as long as its places stand apart: every rising walk is a path.
        names = small_names(30)
        ways = [(names[one], names[other], other - one) for one, other in itertools.combinations(range(30), 2)]
        web = map_of(names, ways)
        with within(60):
            for one, other in itertools.combinations(range(30), 2):
                self.assertEqual(path(web, names[one], names[other]), names[one:other + 1])
                self.assertEqual(path(web, names[other], names[one]), [names[other], names[one]])
                self.assertEqual(far(web, names[other], names[one]), other - one)

    def test_grids_without_long_waiting(self):
        chance = random.Random(10)
        for turn in range(3):
            web = grid_map(chance.sample(small_names(30), 30), chance.choice((5, 6)))
            with within(60):
                self.asked_of_all(web)


class HandedInAndTold(unittest.TestCase):
    def setUp(self):
        self.web = map_of(list("abc"), [("a", "b", 1), ("b", "c", 1), ("a", "c", 5)])

    def test_what_is_handed_in_stays(self):
        before = copy.deepcopy(self.web)
        fars(self.web, "a")
        far(self.web, "a", "c")
        path(self.web, "a", "c")
        self.assertEqual(self.web, before)

    def test_a_dict_that_was_told_is_the_askers_own(self):
        told = fars(self.web, "a")
        told["b"] = 7
        del told["c"]
        self.assertEqual(fars(self.web, "a"), {"a": 0, "b": 1, "c": 2})
        self.assertEqual(far(self.web, "a", "b"), 1)
        self.assertEqual(path(self.web, "a", "c"), ["a", "b", "c"])
        self.assertEqual(told, {"a": 0, "b": 7})

    def test_a_list_that_was_told_is_the_askers_own(self):
        told = path(self.web, "a", "c")
        told.append("q")
        told[0] = "z"
        self.assertEqual(path(self.web, "a", "c"), ["a", "b", "c"])
        self.assertEqual(fars(self.web, "a"), {"a": 0, "b": 1, "c": 2})
        self.assertEqual(told, ["z", "b", "c", "q"])

    def test_lists_that_a_map_was_made_of_change_no_later_answer(self):
        places, ways = ["a", "b", "c"], [("a", "b", 1), ("b", "c", 1)]
        web = map_of(places, ways)
        places.clear()
        ways[0] = ("a", "b", 9)
        self.assertEqual(fars(web, "a"), {"a": 0, "b": 1, "c": 2})
        self.assertEqual(path(web, "a", "c"), ["a", "b", "c"])

    def test_one_map_asked_between_questions_of_another(self):
        other = map_of(list("abc"), [("a", "b", 4), ("a", "c", 1)])
        for turn in range(2):
            self.assertEqual(fars(self.web, "a"), {"a": 0, "b": 1, "c": 2})
            self.assertEqual(fars(other, "a"), {"a": 0, "b": 4, "c": 1})
            self.assertEqual(path(self.web, "c", "b"), ["c", "b"])
            self.assertEqual(path(other, "c", "b"), ["c", "a", "b"])


if __name__ == "__main__":
    unittest.main()
