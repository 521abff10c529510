"""[6] Trees and lines; the root, parents, children, and what is below a place; and [2] as far as it speaks of these."""

import copy
import random
import unittest

from openhouses.fars import path
from openhouses.maps import map_of
from openhouses.trees import below, children, is_line, is_tree, parent
from things import all_ways, chance_map, chance_tree, line_ways, small_names

GREAT = 10 ** 30 - 1


def line_map(names, length):
    return map_of(names, line_ways(names, length))


def star_map(middle, names, length):
    return map_of([middle] + names, [(middle, name, length) for name in names])


def ring_map(names, length):
    return map_of(names, line_ways(names, length) + [(names[0], names[-1], length)])


def full_map(names, length):
    return map_of(names, all_ways(names, length))


def many_ways(web, place):
    return len([way for way in web[1] if place in way[:2]])


class Kinds(unittest.TestCase):
    def told(self, web, tree, line):
        self.assertIs(is_tree(web), tree, web)
        self.assertIs(is_line(web), line, web)

    def test_one_place_and_two(self):
        self.told(map_of(["m"], []), True, True)
        for length in (1, GREAT):
            self.told(map_of(["b", "a"], [("b", "a", length)]), True, True)

    def test_lines_in_any_order_of_names(self):
        chance = random.Random(11)
        for many in (2, 3, 4, 5, 12, 29, 30):
            names = small_names(many)
            for order in [names, names[::-1]] + [chance.sample(names, many) for turn in range(10)]:
                self.told(line_map(order, chance.choice((1, 7, GREAT))), True, True)

    def test_stars(self):
        for middle in ("a", "m", "zzz"):
            names = [name for name in small_names(30) if name != middle][:29]
            for many in (1, 2):
                self.told(star_map(middle, names[:many], 3), True, True)
            for many in (3, 4, 28, 29):
                self.told(star_map(middle, names[:many], 3), True, False)

    def test_rings(self):
        for many in (3, 4, 29, 30):
            self.told(ring_map(small_names(many), 1), False, False)

    def test_a_tree_that_is_no_line(self):
        self.told(map_of(list("abcde"), line_ways("abcd", 1) + [("b", "e", 1)]), True, False)
        names = small_names(30)
        for at in range(1, 28):
            self.told(map_of(names, line_ways(names[:29], 2) + [(names[at], names[29], 2)]), True, False)
        for at in (0, 28):
            self.told(map_of(names, line_ways(names[:29], 2) + [(names[at], names[29], 2)]), True, True)

    def test_a_tree_and_one_way_more(self):
        names = small_names(30)
        for at in range(2, 30):
            self.told(map_of(names, line_ways(names, 1) + [(names[0], names[at], 1)]), False, False)
        self.told(map_of(list("abcd"), [("a", "b", 1), ("a", "c", 1), ("a", "d", 1), ("b", "c", 1)]), False, False)

    def test_a_way_between_each_two(self):
        for many in (1, 2):
            self.told(full_map(small_names(many), 5), True, True)
        for many in (3, 4, 30):
            self.told(full_map(small_names(many), 5), False, False)

    def test_chance_maps(self):
        chance = random.Random(12)
        for turn in range(300):
            web = chance_map(chance, chance.randint(1, 6), 9)
            tree = len(web[1]) == len(web[0]) - 1
            self.told(web, tree, tree and max([many_ways(web, place) for place in web[0]]) <= 2)


class UpAndDown(unittest.TestCase):
    def all_told(self, web):
        """All that is told of a tree agrees with the paths to its root."""
        ups = {place: path(web, place, web[0][0]) for place in web[0]}
        for place in web[0]:
            self.assertEqual(parent(web, place), ups[place][1] if len(ups[place]) > 1 else None, (web, place))
            told = children(web, place)
            self.assertIs(type(told), list)
            self.assertEqual(told, [name for name in web[0] if ups[name][1:2] == [place]], (web, place))
            told = below(web, place)
            self.assertIs(type(told), list)
            self.assertEqual(told, [name for name in web[0] if place in ups[name]], (web, place))

    def test_one_place(self):
        web = map_of(["q"], [])
        self.assertIsNone(parent(web, "q"))
        self.assertEqual(children(web, "q"), [])
        self.assertEqual(below(web, "q"), ["q"])

    def test_two_places(self):
        web = map_of(["b", "a"], [("b", "a", 1)])
        self.assertEqual([parent(web, place) for place in "ab"], [None, "a"])
        self.assertEqual([children(web, place) for place in "ab"], [["b"], []])
        self.assertEqual([below(web, place) for place in "ab"], [["a", "b"], ["b"]])

    def test_a_line_whose_root_stands_at_an_end(self):
        names = small_names(30)
        web = line_map(names, 1)
        for at in range(30):
            self.assertEqual(parent(web, names[at]), names[at - 1] if at else None)
            self.assertEqual(children(web, names[at]), names[at + 1:at + 2])
            self.assertEqual(below(web, names[at]), names[at:])

    def test_a_line_whose_root_stands_anywhere(self):
        others = small_names(30)[1:]
        for at in range(30):
            names = others[:at] + ["a"] + others[at:]
            web = line_map(names, GREAT)
            self.assertIsNone(parent(web, "a"))
            self.assertEqual(children(web, "a"), names[at - 1:at] * (at > 0) + names[at + 1:at + 2])
            self.assertEqual(below(web, "a"), sorted(names))
            self.all_told(web)

    def test_a_star_whose_root_is_its_middle(self):
        names = small_names(30)
        web = star_map("a", names[1:][::-1], 4)
        self.assertIsNone(parent(web, "a"))
        self.assertEqual(children(web, "a"), names[1:])
        self.assertEqual(below(web, "a"), names)
        for name in names[1:]:
            self.assertEqual((parent(web, name), children(web, name), below(web, name)), ("a", [], [name]))

    def test_a_star_whose_root_is_one_of_its_ends(self):
        names = small_names(29)
        web = star_map("zzz", names, 4)
        self.assertEqual((parent(web, "a"), children(web, "a")), (None, ["zzz"]))
        self.assertEqual(below(web, "a"), names + ["zzz"])
        self.assertEqual((parent(web, "zzz"), children(web, "zzz")), ("a", names[1:]))
        self.assertEqual(below(web, "zzz"), names[1:] + ["zzz"])
        self.assertEqual((parent(web, "k"), children(web, "k"), below(web, "k")), ("zzz", [], ["k"]))

    def test_the_root_is_the_first_by_name_not_by_how_it_was_handed_in(self):
        web = map_of(["m", "b", "ab", "z"], [("m", "z", 1), ("m", "b", 2), ("ab", "z", 3)])
        self.assertEqual([parent(web, place) for place in ("ab", "b", "m", "z")], [None, "m", "z", "ab"])
        self.assertEqual([children(web, place) for place in ("ab", "b", "m", "z")], [["z"], [], ["b"], ["m"]])
        self.assertEqual([below(web, place) for place in ("ab", "b", "m", "z")],
                         [["ab", "b", "m", "z"], ["b"], ["b", "m"], ["b", "m", "z"]])

    def test_all_of_chance_trees(self):
        chance = random.Random(13)
        for turn in range(100):
            self.all_told(chance_tree(chance, chance.choice((1, 2, 3, 4, 5, 8, 13)), chance.choice((1, 9, GREAT))))
        for turn in range(10):
            self.all_told(chance_tree(chance, 30, GREAT))


class HandedInAndTold(unittest.TestCase):
    def test_what_is_handed_in_stays(self):
        web = chance_tree(random.Random(14), 9, 5)
        before = copy.deepcopy(web)
        for ask in (is_tree, is_line):
            ask(web)
        for place in web[0]:
            for ask in (parent, children, below):
                ask(web, place)
        self.assertEqual(web, before)

    def test_a_list_that_was_told_is_the_askers_own(self):
        web = star_map("a", list("bcd"), 1)
        for ask, answer in ((children, ["b", "c", "d"]), (below, ["a", "b", "c", "d"])):
            told = ask(web, "a")
            told.append("q")
            told[0] = "z"
            self.assertEqual(ask(web, "a"), answer)
            self.assertEqual(told, ["z"] + answer[1:] + ["q"])

    def test_lists_that_a_map_was_made_of_change_no_later_answer(self):
        places, ways = ["a", "b", "c"], [("a", "b", 1), ("b", "c", 1)]
        web = map_of(places, ways)
        places.append("d")
        ways[1] = ("a", "c", 1)
        self.assertEqual((is_tree(web), is_line(web), parent(web, "c")), (True, True, "b"))
        self.assertEqual((children(web, "a"), below(web, "b")), (["b"], ["b", "c"]))

    def test_one_tree_asked_between_questions_of_another(self):
        one, other = line_map(list("abc"), 1), line_map(list("bac"), 1)
        for turn in range(2):
            self.assertEqual((parent(one, "c"), parent(other, "c")), ("b", "a"))
            self.assertEqual((children(one, "a"), children(other, "a")), (["b"], ["b", "c"]))
            self.assertEqual((below(one, "b"), below(other, "b")), (["b", "c"], ["b"]))


if __name__ == "__main__":
    unittest.main()
