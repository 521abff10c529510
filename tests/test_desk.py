"""[26] The desk: its rows, its answers, its refusals in their order; and [2] of these."""

import random
import unittest

from openhouses.best import best_of
from openhouses.checker import lets_by, span
from openhouses.costs import cost, houses_cost, ways_cost
from openhouses.covers import cover_within
from openhouses.desk import Desk
from openhouses.errors import (
    HouseError, NoBack, NoCover, NoFolk, NoNumber, NoOpening, NoPlace, NoRow, NoSite, NoText, NoWay,
)
from openhouses.exchanges import exchanges
from openhouses.plain import plain_best
from openhouses.reader import read_case, read_paper
from openhouses.texts import case_text, opening_text, paper_text, tree_text
from openhouses.town import Town
from openhouses.tries import tries_hold
from things import nested, odd_things, shown, small_names, within
from written import chance_paper, chance_small, chance_tree_of_tries

GREAT = 10 ** 30 - 1
# A line a b c d: it is 2, 5 and 9 far from a. To a it costs 0, 2 and 18 from a, b and d; to c 15, 3 and 8; to d 27, 7, 0.
TEXT = "way a b 2\nway b c 3\nway c d 4\nsite a 5\nsite c 1\nsite d 6\nfolk a 3\nfolk b 1\nfolk d 2\nlimit 2"
TREE = "leaf(a=3 b=1 d=2;0)"
WORDS = ("come leave length charge open shut back cost goings best lets paper holds exchanges cover case").split()


def told_by(town):
    """All that a desk tells of its town."""
    case, opening = town.case(), town.opening()
    listed = exchanges(case, opening)
    return {
        "cost": f"{houses_cost(case, opening)} {ways_cost(case, opening)} {cost(case, opening)}",
        "goings": " ".join([f"{place}>{house}" for place, house, far in town.goings()]),
        "best": f"{plain_best(case)[0]} {','.join(plain_best(case)[1])}",
        "exchanges": f"{len(listed)} {len([number for exchange, number in listed if number < cost(case, opening)])}",
        "case": case_text(case),
    }


class Told(unittest.TestCase):
    def refused(self, desk, row, refusal):
        """It is refused so, and nothing is changed."""
        before = [desk.say(word) for word in ("case", "cost", "goings")]
        with self.assertRaises(HouseError, msg=shown(row)) as caught:
            desk.say(row)
        self.assertIs(type(caught.exception), refusal, shown(row))
        if refusal is NoText:
            self.assertEqual(caught.exception.line, 0)
        self.assertEqual([desk.say(word) for word in ("case", "cost", "goings")], before)

    def says(self, desk, rows):
        for row, answer in rows:
            said = desk.say(row)
            self.assertEqual((type(said), said), (str, answer), row)


class Made(Told):
    def test_with_the_opening_of_the_plain_best(self):
        self.says(Desk(TEXT), [("case", TEXT), ("best", "13 a,d"), ("cost", "11 2 13")])
        chance = random.Random(260)
        for turn in range(60):
            case = chance_small(chance)
            desk = Desk(case_text(case))
            self.says(desk, list(told_by(Town(case, plain_best(case)[1])).items()))

    def test_refused_as_reading_is(self):
        for text, line in (("", 0), (TEXT + "\n", 10), ("x\n" + TEXT, 0), ("place a", 1), (TEXT.replace("folk", "folks"), 6),
                           (TEXT.replace("limit 2", "limit 0"), 10), (TEXT.replace("way a b 2\n", ""), 9)):
            with self.assertRaises(NoText) as caught:
                Desk(text)
            self.assertEqual(caught.exception.line, line)
        for thing in odd_things() + [1, TEXT.encode(), [TEXT]]:
            with self.assertRaises(NoText) as caught:
                Desk(thing)
            self.assertEqual(caught.exception.line, 0)


class Rows(Told):
    def test_by_hand(self):
        self.says(Desk(TEXT), [
            ("cost", "11 2 13"), ("best", "13 a,d"), ("goings", "a>a b>a d>d"), ("exchanges", "4 0"), ("case", TEXT),
            ("come c 2", "ok 1"), ("goings", "a>a b>a c>d d>d"), ("cost", "11 10 21"), ("shut a", "ok 2"),
            ("goings", "a>d b>d c>d d>d"), ("open c", "ok 3"), ("goings", "a>c b>c c>c d>d"), ("cost", "7 18 25"),
            ("charge d 60", "ok 0"), ("cost", "61 18 79"), ("length b a 1", "ok 1"), ("cost", "61 15 76"),
            ("leave b 1", "ok 1"), ("goings", "a>c c>c d>d"),
            ("case", "way a b 1\nway b c 3\nway c d 4\nsite a 5\nsite c 1\nsite d 60\nfolk a 3\nfolk c 2\nfolk d 2\nlimit 2"),
            ("back", "ok 1"), ("back", "ok 1"), ("back", "ok 0"), ("back", "ok 3"), ("back", "ok 2"), ("back", "ok 1"),
            ("case", TEXT), ("cost", "11 2 13"),
        ])

    def test_lets(self):
        desk = Desk(TEXT)
        self.says(desk, [
            ("lets a,d ; a>a b>a d>d ; a=0 b=0 d=0 ; 0", "yes 0 13"),
            ("lets a,d ; a>a b>d d>d ; a=0 b=0 d=0 ; 3", "yes -6 18"),
            ("lets c ; a>c b>c d>c ; a=5 b=2 d=6 ; 0", "yes 13 27"),
            ("lets c ; a>c b>c d>c ; a=6 b=2 d=6 ; 0", "no"),
            ("lets a,c,d ; a>a b>a d>d ; a=0 b=0 d=0 ; 0", "no"),
            ("lets a ; a>d b>a d>a ; a=0 b=0 d=0 ; 0", "no"),
            ("lets x ; q>r ; s=0 ; 0", "no"),
            (f"lets a ; a>a b>a d>a ; a=0 b=0 d=0 ; {GREAT}", f"yes -{2 * GREAT} 25"),
            (f"lets a ; a>a b>a d>a ; a=0 b=0 d=0 ; {10 ** 100 - 1}", f"yes -{2 * (10 ** 100 - 1)} 25"),
        ])

    def test_paper(self):
        chance = random.Random(261)
        for turn in range(30):
            case = chance_small(chance)
            desk = Desk(case_text(case))
            said = desk.say("paper")
            paper = read_paper(said)
            self.assertEqual(paper_text(paper), said)
            self.assertIs(lets_by(case, paper), True)
            low, high = span(case, paper)
            self.says(desk, [(f"lets {said}", f"yes {low} {high}")])
            self.assertEqual(case_text(case), desk.say("case"))

    def test_paper_of_the_towns_case_on_a_line(self):
        desk = Desk(TEXT)
        for row in ("come c 9", "charge a 50", "length c d 30", "leave a 3"):
            desk.say(row)
            low = desk.say("best").split(" ")[0]
            self.says(desk, [("lets " + desk.say("paper"), f"yes {low} {low}")])

    def test_holds(self):
        desk = Desk(TEXT)
        self.says(desk, [
            ("holds 6 leaf(a=3 b=1 d=2;0)", "yes"), ("holds 7 leaf(a=3 b=1 d=2;0)", "no"), ("holds 0 leaf(a=3 b=1 d=2;0)", "yes"),
            ("holds 0 leaf(a=3 b=1;0)", "no"), ("holds 0 leaf(a=30 b=1 d=2;0)", "no"), ("holds 0 leaf(a=3 b=1 d=2;4)", "no"),
            ("holds 0 split(a;leaf(a=3 b=1 d=2;0);leaf(a=3 b=1 d=2;0))", "yes"),
            ("holds 0 split(b;leaf(a=3 b=1 d=2;0);leaf(a=3 b=1 d=2;0))", "no"),
            (f"holds {GREAT} leaf(a=3 b=1 d=2;0)", "no"),
        ])
        chance = random.Random(262)
        for turn in range(30):
            case = chance_small(chance)
            best, opening, tree = best_of(case)
            if best <= GREAT:
                desk = Desk(case_text(case))
                self.says(desk, [(f"holds {best} {tree_text(tree)}", "yes")])
                other = chance_tree_of_tries(chance, 3)
                self.says(desk, [(f"holds 0 {tree_text(other)}", "yes" if tries_hold(case, 0, other) else "no")])
                if best < GREAT:
                    self.says(desk, [(f"holds {best + 1} {tree_text(tree)}", "no")])

    def test_exchanges(self):
        desk = Desk(TEXT)
        self.says(desk, [("exchanges", "4 0"), ("shut d", "ok 1"), ("exchanges", "4 2")])
        self.says(Desk("place m\nsite m 1\nfolk m 1"), [("exchanges", "0 0")])

    def test_cover(self):
        desk = Desk(TEXT)
        self.says(desk, [("cover 2", "a,d 2"), ("cover 3", "a,d 2"), ("cover 5", "c 1"), ("cover 9", "a 1"), (f"cover {GREAT}", "a 1")])
        self.refused(desk, "cover 1", NoCover)
        self.refused(desk, "cover 0", NoCover)
        desk.say("leave b 1")
        self.says(desk, [("cover 0", "a,d 2"), ("cover 4", "a,c 2")])
        # On a ring fewer may stand apart than the cover has sites.
        ring = "way a x 1\nway b x 1\nway b y 1\nway c y 1\nway c z 1\nway a z 1\nsite x 1\nsite y 1\nsite z 1\nfolk a 1\nfolk b 1\nfolk c 1"
        self.says(Desk(ring), [("cover 1", "x,y 1")])

    def test_chance_deeds(self):
        chance = random.Random(263)
        refusals = {}
        for turn in range(40):
            case = chance_small(chance)
            desk, town = Desk(case_text(case)), Town(case, plain_best(case)[1])
            for step in range(25):
                row, deed = self.chance_row(chance, town)
                try:
                    due = f"ok {len(deed())}"
                except HouseError as refusal:
                    refusals[type(refusal)] = True
                    self.refused(desk, row, type(refusal))
                else:
                    self.says(desk, [(row, due)])
                word = chance.choice(("cost", "goings", "best", "exchanges", "case"))
                self.says(desk, [(word, told_by(town)[word])])
            self.says(desk, list(told_by(town).items()))
            case, far = town.case(), chance.randint(0, 20)
            if len(case[2]) <= 12:
                try:
                    cover, apart = cover_within(case, far)
                except NoCover:
                    self.refused(desk, f"cover {far}", NoCover)
                else:
                    self.says(desk, [(f"cover {far}", f"{opening_text(cover)} {len(apart)}")])
        self.assertEqual(set(refusals), {NoPlace, NoWay, NoSite, NoNumber, NoFolk, NoOpening, NoBack})

    def chance_row(self, chance, town):
        """A row and the deed of the town beside it."""
        web, sites, folk, limit = town.case()
        place = chance.choice(web[0] + (chance.choice(sites)[0],) * 3 + ("q",))
        number = chance.choice((0, 1, 2, chance.randint(0, GREAT), min(chance.choice(folk)[1], GREAT)))
        one, other = chance.choice([way[:2] for way in web[1]] + [(place, chance.choice(web[0]))])
        return chance.choice((
            (f"come {place} {number}", lambda: town.come(place, number)),
            (f"leave {place} {number}", lambda: town.leave(place, number)),
            (f"length {other} {one} {number}", lambda: town.length(one, other, number)),
            (f"charge {place} {number}", lambda: town.charge(place, number)),
            (f"open {place}", lambda: town.begin(place)),
            (f"shut {place}", lambda: town.shut(place)),
            ("back", town.back),
        ))

    def test_the_greatest_case_without_long_waiting(self):
        chance = random.Random(264)
        names = small_names(30)
        lines = [f"way {one} {other} {chance.randint(1, GREAT)}" for at, one in enumerate(names) for other in names[:at]]
        lines += [f"site {name} {chance.randint(0, GREAT)}" for name in names[:10]]
        lines += [f"folk {name} {chance.randint(1, GREAT)}" for name in names]
        with within(60):
            desk = Desk("\n".join(lines + ["limit 4"]))
            for row in ("cost", "goings", "best", "exchanges", "come a 1", "length b a 1", "cost", "back", "back", "case"):
                desk.say(row)
            paper = desk.say("paper")
            self.assertTrue(desk.say(f"lets {paper}").startswith("yes "))
        self.assertEqual(read_case(desk.say("case")), read_case("\n".join(lines + ["limit 4"])))


class NoRows(Told):
    RIGHT = ["come a 1", "leave a 1", "length a b 1", "charge a 1", "open c", "shut a", "back", "cost", "goings", "best", "paper",
             "exchanges", "cover 9", "case"]

    def test_another_first_word(self):
        desk = Desk(TEXT)
        for word in ("", " ", "x", "Come", "COST", "begin", "opens", "costs", "cas", "cost,", "cost;", "\ncost", "cost\n", "cost\t",
                     "help", "case.", "0", "a", "none"):
            for row in (word, word + " a", word + " a 1", word + " a b 1"):
                self.refused(desk, row, NoRow)
        for row in self.RIGHT:
            self.refused(desk, "x" + row, NoRow)
            self.refused(desk, row[1:], NoRow)
            self.refused(desk, row.upper(), NoRow)

    def test_a_word_too_many_or_too_few(self):
        desk = Desk(TEXT)
        for row in self.RIGHT:
            words = row.split(" ")
            for wrong in (row + " a", row + " 1", row + " ", row + "  ", " " + row, words[0] + "  " + " ".join(words[1:]),
                          " ".join(words + words)):
                self.refused(desk, wrong, NoRow)
            for many in range(1, len(words)):
                self.refused(desk, " ".join(words[:many]), NoRow)
        for row in ("lets", "holds", "holds 1", "holds ", "holds x", " lets a", " holds 1 a", "back  ", "back ", "cost cost"):
            self.refused(desk, row, NoRow)

    def test_ahead_of_other_refusals(self):
        desk = Desk(TEXT)
        for row in ("come q x 1", "come q", "leave q", "length q 0", "length q q q q", "charge q", "open q q", "shut", "cover x y",
                    "cover", "holds x", "back q", "come  x 1"):
            self.refused(desk, row, NoRow)

    def test_what_is_no_text(self):
        desk = Desk(TEXT)
        for thing in odd_things() + [1, GREAT, b"cost", ["cost"], ("cost",), ["come", "a", "1"], {"cost": 1}]:
            self.refused(desk, thing, NoRow)
        for depth in (1, 30):
            self.refused(desk, nested(depth, lambda inner: [inner], "cost"), NoRow)


class Refusals(Told):
    BAD = ("", "x", "00", "01", "-1", "+1", "-0", "1.0", "1_0", "0x1", "1e1", "None", "1\n", "\t1", "a", "1,", ";", "(",
           str(GREAT + 1), "1" * 31, "0" * 30, "9" * 5000)

    def test_no_number(self):
        for bad in self.BAD:
            for row in (f"come a {bad}", f"leave a {bad}", f"length a b {bad}", f"charge a {bad}", f"cover {bad}", f"holds {bad} {TREE}"):
                self.refused(Desk(TEXT), row, NoNumber)

    def test_thirty_figures(self):
        desk = Desk(TEXT)
        self.says(desk, [
            (f"come a {GREAT}", "ok 0"), (f"leave a {GREAT}", "ok 0"), (f"cover {GREAT}", "a 1"), (f"charge a {GREAT}", "ok 0"),
            (f"length a b {GREAT}", "ok 1"), (f"holds {GREAT} {TREE}", "no"), (f"come d {GREAT}", "ok 0"), (f"come d {GREAT}", "ok 0"),
        ])
        # What comes together may have more.
        self.assertIn(f"folk d {2 * GREAT + 2}", desk.say("case").split("\n"))
        self.refused(desk, f"leave d {GREAT + 1}", NoNumber)

    def test_no_number_ahead_of_the_others(self):
        desk = Desk(TEXT)
        for row in ("come q x", "come  x", "leave q x", "leave c 01", "length q r x", "length a c -1", "length a a x", "charge q x",
                    "charge b x", "holds x y", "holds x ", "holds  ", "holds 01 leaf(", "cover x"):
            self.refused(desk, row, NoNumber)

    def test_no_text(self):
        desk = Desk(TEXT)
        for tree in ("", " ", "x", "leaf()", "leaf(a=1;0", "leaf(a=1;0) ", " leaf(a=1;0)", "leaf(b=1 a=1;0)", "split(a;leaf(a=1;0))",
                     "leaf(a=1;0) leaf(a=1;0)", "a ; a>a ; a=1 ; 0"):
            self.refused(desk, "holds 0 " + tree, NoText)
        for paper in ("", " ", "x", "a ; a>a ; a=0", "a ; a>a ; a=0 ; 0 ", " a ; a>a ; a=0 ; 0", "a;a>a;a=0;0", "d,a ; a>a ; a=0 ; 0",
                      "a ; a>a ; a=0 ; -1", "a ; a>a ; a=0 ; 00", "leaf(a=1;0)", "a ; a>a ; a=0 ; 0 ; 0"):
            self.refused(desk, "lets " + paper, NoText)

    def test_as_the_stages_refuse(self):
        desk = Desk(TEXT)
        for row, refusal in (
            ("come q 1", NoPlace), ("come  1", NoPlace), ("come A 1", NoPlace), ("come 1 1", NoPlace), ("come a 0", NoNumber),
            ("come q 0", NoPlace), ("leave q 1", NoPlace), ("leave a 0", NoNumber), ("leave a 4", NoFolk), ("leave c 1", NoFolk),
            ("length q a 1", NoPlace), ("length a q 1", NoPlace), ("length a c 1", NoWay), ("length a a 1", NoWay),
            ("length a b 0", NoNumber), ("length a c 0", NoWay), ("length  a 1", NoPlace), ("charge q 1", NoPlace),
            ("charge b 1", NoSite), ("open q", NoPlace), ("open ", NoPlace), ("open b", NoSite), ("open a", NoOpening),
            ("open c", NoOpening), ("shut q", NoPlace), ("shut b", NoSite), ("shut c", NoOpening), ("shut ", NoPlace),
            ("back", NoBack), ("cover 1", NoCover), ("length   1", NoPlace),
        ):
            self.refused(desk, row, refusal)
        desk.say("shut a")
        self.refused(desk, "shut d", NoOpening)

    def test_nobody_left(self):
        desk = Desk("place m\nsite m 1\nfolk m 2")
        self.refused(desk, "leave m 2", NoFolk)
        self.says(desk, [("leave m 1", "ok 0")])
        self.refused(desk, "leave m 1", NoFolk)

    def test_what_is_refused_is_no_deed(self):
        desk = Desk(TEXT)
        desk.say("come c 2")
        for row, refusal in (("come q 1", NoPlace), ("x", NoRow), ("come a x", NoNumber), ("open a", NoOpening),
                             ("lets x", NoText), ("leave a 9", NoFolk)):
            self.refused(desk, row, refusal)
        self.says(desk, [("back", "ok 1"), ("case", TEXT)])
        self.refused(desk, "back", NoBack)

    def test_bent_rows(self):
        # Whatever is said, it is answered with a text or refused, and a refusal changes nothing.
        chance = random.Random(265)
        desk = Desk(TEXT)
        parts = WORDS + ["a", "b", "c", "d", "q", "0", "1", "5", "x", "", TREE, "a ; a>a ; a=0 ; 0"]
        seen = {}
        for turn in range(2000):
            row = " ".join([chance.choice(WORDS + ["x"])] + chance.sample(parts, chance.randint(0, 3)))
            before = desk.say("case"), desk.say("cost")
            try:
                self.assertIs(type(desk.say(row)), str)
            except HouseError as refusal:
                seen[type(refusal)] = True
                self.assertEqual((desk.say("case"), desk.say("cost")), before)
        self.assertTrue(set(seen) >= {NoRow, NoNumber, NoText, NoPlace, NoSite, NoOpening, NoBack})


class Beside(Told):
    def test_two_desks_beside_each_other(self):
        one, other = Desk(TEXT), Desk(TEXT)
        self.says(one, [("come c 2", "ok 1")])
        self.refused(other, "back", NoBack)
        self.says(other, [("case", TEXT), ("shut a", "ok 2")])
        self.says(one, [("goings", "a>a b>a c>d d>d"), ("back", "ok 1"), ("case", TEXT)])
        self.says(other, [("goings", "a>d b>d d>d"), ("back", "ok 2")])

    def test_asking_changes_nothing(self):
        desk = Desk(TEXT)
        paper = desk.say("paper")
        rows = ["cost", "goings", "best", "paper", f"lets {paper}", f"holds 5 {TREE}", "exchanges", "cover 9", "case"]
        first = [desk.say(row) for row in rows]
        self.assertEqual([desk.say(row) for row in rows], first)
        self.refused(desk, "back", NoBack)

    def test_papers_of_form_alone(self):
        chance = random.Random(266)
        desk = Desk(TEXT)
        for turn in range(50):
            paper = chance_paper(chance)
            self.says(desk, [("lets " + paper_text(paper), "no")])


if __name__ == "__main__":
    unittest.main()
