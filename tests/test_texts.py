"""[24], [25] What is written; [3] as far as it speaks of texts; and [2] of these. (What is read: test_reader.)"""

import copy
import random
import unittest

from openhouses.best import best_of
from openhouses.cases import case_of
from openhouses.maps import map_of
from openhouses.openings import openings
from openhouses.papers import paper_of
from openhouses.reader import read_case, read_opening, read_paper, read_tree
from openhouses.texts import case_text, opening_text, paper_text, tree_text
from things import all_ways, small_names, within
from written import LEAF, chance_paper, chance_small, chance_tree_of_tries, deep_tree

GREAT = 10 ** 30 - 1
HUGE = 10 ** 100 - 1
WEB = map_of(["mill", "inn", "ford"], [("mill", "inn", 4), ("ford", "inn", 1), ("ford", "mill", 2)])


class CaseText(unittest.TestCase):
    def test_by_hand(self):
        case = case_of(WEB, [("mill", 5), ("inn", 0)], [("mill", 4), ("ford", 2)], None)
        lines = ["way ford inn 1", "way ford mill 2", "way inn mill 4", "site inn 0", "site mill 5", "folk ford 2",
                 "folk mill 4"]
        self.assertEqual(case_text(case), "\n".join(lines))
        for limit in (1, 2, 10, GREAT):
            self.assertEqual(case_text(case_of(*case[:3], limit)), "\n".join(lines + [f"limit {limit}"]))

    def test_one_place(self):
        case = case_of(map_of(["m"], []), [("m", 3)], [("m", 2)], None)
        self.assertEqual(case_text(case), "place m\nsite m 3\nfolk m 2")
        self.assertEqual(case_text(case_of(*case[:3], 1)), "place m\nsite m 3\nfolk m 2\nlimit 1")

    def test_numbers_of_many_figures(self):
        for number in (GREAT, HUGE, 10 ** 30, 10 ** 999, 10 ** 4000 - 1):
            case = case_of(map_of(["a", "b"], [("a", "b", number)]), [("a", number)], [("b", number)], number)
            self.assertEqual(case_text(case), f"way a b {number}\nsite a {number}\nfolk b {number}\nlimit {number}")
            self.assertEqual(read_case(case_text(case)), case)

    def test_reads_back(self):
        chance = random.Random(240)
        for turn in range(100):
            case = chance_small(chance)
            told = case_text(case)
            self.assertIs(type(told), str)
            self.assertEqual(read_case(told), case)

    def test_the_greatest_case(self):
        names = small_names(30)
        web = map_of(names, all_ways(names, GREAT))
        case = case_of(web, [(name, GREAT) for name in names[:10]], [(name, GREAT) for name in names], GREAT)
        with within(10):
            self.assertEqual(read_case(case_text(case)), case)


class OtherTexts(unittest.TestCase):
    def test_openings(self):
        for opening, text in ((("a",), "a"), (("a", "d"), "a,d"), (("a", "ab", "abc"), "a,ab,abc"), (("ford", "inn"), "ford,inn")):
            self.assertEqual(opening_text(opening), text)
            self.assertEqual(read_opening(text), opening)

    def test_a_paper(self):
        paper = (("a", "d"), (("a", "a"), ("b", "a"), ("d", "d")), (("a", 0), ("b", 3), ("d", 2)), 0)
        self.assertEqual(paper_text(paper), "a,d ; a>a b>a d>d ; a=0 b=3 d=2 ; 0")
        self.assertEqual(read_paper("a,d ; a>a b>a d>d ; a=0 b=3 d=2 ; 0"), paper)
        paper = (("x",), (("ford", "mill"),), (("q", HUGE),), HUGE)
        self.assertEqual(paper_text(paper), f"x ; ford>mill ; q={HUGE} ; {HUGE}")
        self.assertEqual(read_paper(paper_text(paper)), paper)

    def test_trees_of_tries(self):
        self.assertEqual(tree_text(LEAF), "leaf(a=0 ab=12;3)")
        self.assertEqual(tree_text(("split", "x", LEAF, LEAF)), "split(x;leaf(a=0 ab=12;3);leaf(a=0 ab=12;3))")
        other = ("leaf", (("b", 7),), 0)
        tree = ("split", "x", ("split", "ab", LEAF, other), other)
        self.assertEqual(tree_text(tree), "split(x;split(ab;leaf(a=0 ab=12;3);leaf(b=7;0));leaf(b=7;0))")
        tree = ("split", "x", other, ("split", "ab", LEAF, other))
        self.assertEqual(tree_text(tree), "split(x;leaf(b=7;0);split(ab;leaf(a=0 ab=12;3);leaf(b=7;0)))")

    def test_papers_read_back(self):
        chance = random.Random(241)
        for turn in range(200):
            paper = chance_paper(chance)
            self.assertEqual(read_paper(paper_text(paper)), paper)
            self.assertEqual(read_opening(opening_text(paper[0])), paper[0])

    def test_trees_read_back(self):
        chance = random.Random(242)
        for turn in range(100):
            tree = chance_tree_of_tries(chance, chance.randint(1, 7))
            self.assertEqual(read_tree(tree_text(tree)), tree)

    def test_thirty_deep_on_either_side_quickly(self):
        for side in ("first", "second", "turns"):
            for deep in (1, 2, 29, 30):
                tree = deep_tree(deep, side)
                with within(5):
                    self.assertEqual(read_tree(tree_text(tree)), tree)

    def test_what_the_program_tells_reads_back(self):
        chance = random.Random(243)
        for turn in range(40):
            case = chance_small(chance)
            paper, tree = paper_of(case), best_of(case)[2]
            self.assertEqual(read_paper(paper_text(paper)), paper)
            self.assertEqual(read_tree(tree_text(tree)), tree)
            for opening in openings(case)[:20]:
                self.assertEqual(read_opening(opening_text(opening)), opening)

    def test_a_tree_of_a_thousand_leaves_quickly(self):
        # What is told may be handed in again, however great: ten splits deep, thirty prices in each leaf.
        tree = ("leaf", tuple([(name, GREAT) for name in small_names(30)]), 0)
        for site in "abcdefghij":
            tree = ("split", site, tree, tree)
        with within(20):
            self.assertEqual(read_tree(tree_text(tree)), tree)


class HandedIn(unittest.TestCase):
    def test_what_is_handed_in_stays(self):
        case = case_of(WEB, [("mill", 5), ("inn", 0)], [("mill", 4), ("ford", 2)], None)
        paper, tree = chance_paper(random.Random(244)), deep_tree(5, "turns")
        before = copy.deepcopy((case, paper, tree))
        case_text(case), paper_text(paper), tree_text(tree), opening_text(paper[0])
        self.assertEqual((case, paper, tree), before)


if __name__ == "__main__":
    unittest.main()
