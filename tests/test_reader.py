"""[24], [25] What is read, and NoText with its line; [2] of these."""

import random
import re
import unittest

from openhouses.cases import case_of
from openhouses.errors import HouseError, NoCase, NoMap, NoText
from openhouses.maps import map_of
from openhouses.reader import read_case, read_opening, read_paper, read_tree
from openhouses.texts import case_text, opening_text, paper_text, tree_text
from things import nested, odd_things, shown, small_names, within
from written import LEAF, chance_paper, chance_small, chance_tree_of_tries, deep_tree

GREAT = 10 ** 30 - 1
HUGE = 10 ** 100 - 1
LINES = ["way ford inn 1", "way ford mill 2", "site inn 0", "site mill 5", "folk ford 2", "folk mill 4", "limit 2"]
CASE = case_of(map_of(["mill", "inn", "ford"], [("ford", "inn", 1), ("ford", "mill", 2)]),
               [("mill", 5), ("inn", 0)], [("mill", 4), ("ford", 2)], 2)
NAME, NUMBER = "[a-z]{1,6}", "(?:0|[1-9][0-9]*)"
LINE_FORMS = {
    "way": f"way {NAME} {NAME} {NUMBER}", "place": f"place {NAME}", "site": f"site {NAME} {NUMBER}",
    "folk": f"folk {NAME} {NUMBER}", "limit": f"limit {NUMBER}",
}


def fault_of(text):
    """The number of the first line at fault, as [24] names the faults; None where there is none."""
    kinds = list(LINE_FORMS)
    seen = []
    for at, line in enumerate(text.split("\n")):
        found = [kind for kind in kinds if re.fullmatch(LINE_FORMS[kind], line)]
        if not found:
            return at
        kind = found[0]
        if any([kinds.index(other) > kinds.index(kind) for other in seen]):
            return at
        if kind == "place" and ("way" in seen or "place" in seen) or kind == "limit" and "limit" in seen:
            return at
        seen.append(kind)
    return None


def reckoned_case(text):
    """The case, or the line that NoText tells."""
    if fault_of(text) is not None:
        return fault_of(text)
    rows = [line.split(" ") for line in text.split("\n")]
    ways = [(one, other, int(length)) for kind, one, other, length in [row for row in rows if row[0] == "way"]]
    places = {place for way in ways for place in way[:2]} | {row[1] for row in rows if row[0] == "place"}
    told = {kind: [(row[1], int(row[2])) for row in rows if row[0] == kind] for kind in ("site", "folk")}
    limits = [int(row[1]) for row in rows if row[0] == "limit"]
    try:
        return case_of(map_of(list(places), ways), told["site"], told["folk"], limits[0] if limits else None)
    except (NoMap, NoCase):
        return len(rows)


def rising(names):
    return list(names) == sorted(set(names))


def reckoned_opening(text):
    """Whether the text is an opening's, by its form."""
    return bool(re.fullmatch(f"{NAME}(,{NAME})*", text)) and rising(text.split(","))


def are_reckoned_rows(text, mark, inner):
    """Whether the text is rows with this mark, by place."""
    form = f"{NAME}{mark}{inner}"
    return bool(re.fullmatch(f"{form}( {form})*", text)) and rising([row.split(mark)[0] for row in text.split(" ")])


def reckoned_paper(text):
    parts = text.split(" ; ")
    return (len(parts) == 4 and reckoned_opening(parts[0]) and are_reckoned_rows(parts[1], ">", NAME)
            and are_reckoned_rows(parts[2], "=", NUMBER) and bool(re.fullmatch(NUMBER, parts[3])))


def reckoned_tree(text):
    """Whether the text is a tree's: leaves are rubbed out by a mark of their depth, then the splits around them."""
    def leaf(found):
        return "<1>" if are_reckoned_rows(found.group(1), "=", NUMBER) else "!"

    def split(found):
        return f"<{max(int(found.group(1)), int(found.group(2))) + 1}>"

    if "<" in text or "!" in text:
        return False
    text = re.sub(rf"leaf\(([^;()]*);{NUMBER}\)", leaf, text)
    before = None
    while before != text:
        before = text
        text = re.sub(rf"split\({NAME};<([0-9]+)>;<([0-9]+)>\)", split, text)
    depth = re.fullmatch(r"<([0-9]+)>", text)
    return bool(depth) and int(depth.group(1)) <= 30


def bent(chance, text, signs):
    """The text with some signs out, in, twice, or others."""
    for turn in range(chance.choice((1, 1, 1, 2, 3))):
        at = chance.randint(0, len(text))
        how = chance.randint(0, 4)
        sign = chance.choice(signs)
        if how == 0:
            text = text[:at] + text[at + 1:]
        elif how == 1:
            text = text[:at] + sign + text[at:]
        elif how == 2:
            text = text[:at] + sign + text[at + 1:]
        elif how == 3:
            other = chance.randint(at, min(len(text), at + 9))
            text = text[:at] + text[other:]
        else:
            other = chance.randint(at, min(len(text), at + 9))
            text = text[:other] + text[at:]
    return text


class Told(unittest.TestCase):
    def refused(self, read, text, line):
        with self.assertRaises(NoText, msg=shown(text)) as caught:
            read(text)
        self.assertIsInstance(caught.exception, HouseError)
        self.assertEqual((type(caught.exception.line), caught.exception.line), (int, line), shown(text))


class ReadCase(Told):
    def no_line(self, lines, line):
        self.refused(read_case, "\n".join(lines), line)

    def with_line(self, at, line):
        return LINES[:at] + [line] + LINES[at + 1:]

    def test_by_hand(self):
        self.assertEqual(read_case("\n".join(LINES)), CASE)
        self.assertEqual(read_case("\n".join(LINES[:-1])), case_of(*CASE[:3], None))

    def test_one_place_alone(self):
        case = case_of(map_of(["m"], []), [("m", 3)], [("m", 2)], None)
        self.assertEqual(read_case("place m\nsite m 3\nfolk m 2"), case)
        self.assertEqual(read_case("place m\nsite m 3\nfolk m 2\nlimit 7"), case_of(*case[:3], 7))

    def test_lines_mixed_within_their_kinds(self):
        chance = random.Random(250)
        for turn in range(80):
            case = chance_small(chance)
            lines = case_text(case).split("\n")
            mixed = []
            for kind in ("way", "place", "site", "folk", "limit"):
                same = [line for line in lines if line.startswith(kind)]
                mixed += chance.sample(same, len(same))
            for at, line in enumerate(mixed):
                if line.startswith("way") and chance.random() < 0.5:
                    word, one, other, length = line.split(" ")
                    mixed[at] = f"{word} {other} {one} {length}"
            self.assertEqual(read_case("\n".join(mixed)), case)

    def test_numbers_of_many_figures(self):
        for number in (10 ** 29, GREAT, HUGE, 10 ** 999 + 1, 10 ** 4000 - 1):
            text = f"way b a {number}\nsite b {number}\nfolk a {number}\nlimit {number}"
            web = map_of(["a", "b"], [("a", "b", number)])
            self.assertEqual(read_case(text), case_of(web, [("b", number)], [("a", number)], number))
            self.refused(read_case, text.replace(" b", " b 0"), 0)
            self.refused(read_case, text.replace("limit ", "limit 0"), 3)

    def test_each_fault_of_a_line_at_each_line(self):
        for at, line in enumerate(LINES):
            words = line.split(" ")
            for wrong in (
                line + " a", line + " 1", line + " ", " " + line, line.replace(" ", "  ", 1), "  ".join(line.rsplit(" ", 1)),
                " ".join(words[:-1]), words[0], "", " ", line.upper(), words[0].upper() + line[len(words[0]):],
                "ways" + line[len(words[0]):], "x" + line, line[1:], line + "\t", line.replace(" ", "\t"), line + "\r",
                line.replace(" ", "_"), line[:-1] + "x", line + "x", line + ".", line + ".0", line + "e1", line + ",",
                " ".join(words[:-1] + ["0" + words[-1]]), " ".join(words[:-1] + ["00"]), " ".join(words[:-1] + ["-1"]),
                " ".join(words[:-1] + ["+1"]), " ".join(words[:-1] + ["-0"]), " ".join(words[:-1] + ["1_0"]),
                " ".join(words[:-1] + ["0x1"]), " ".join(words[:-1] + [""]), " ".join(words[:-1] + ["None"]),
                " ".join(words[::-1]), "#" + line, "limit", "limit x", "place", "folk 1 a", "site 1", "way a 1 b",
            ):
                self.no_line(self.with_line(at, wrong), at)

    def test_a_name_that_is_none(self):
        for bad in ("", "A", "abcdefg", "a1", "a-b", "1", "a,b", "a_", "~"):
            for at, line in ((0, "way {} inn 1"), (0, "way ford {} 1"), (2, "site {} 0"), (4, "folk {} 2")):
                self.no_line(self.with_line(at, line.format(bad)), at)
            self.no_line([f"place {bad}", "site m 1", "folk m 1"], 0)

    def test_a_line_end_at_either_end_or_two(self):
        text = "\n".join(LINES)
        self.refused(read_case, text + "\n", 7)
        self.refused(read_case, "\n" + text, 0)
        self.refused(read_case, text.replace("\n", "\n\n", 1), 1)
        self.refused(read_case, text + "\n\n", 7)

    def test_kinds_out_of_order(self):
        self.no_line(LINES[2:] + LINES[:2], 5)
        self.no_line(LINES[:1] + LINES[2:4] + LINES[1:2] + LINES[4:], 3)
        self.no_line(LINES[:3] + LINES[4:5] + LINES[3:4] + LINES[5:], 4)
        self.no_line(LINES[:5] + LINES[6:] + LINES[5:6], 6)
        self.no_line(LINES[6:] + LINES[:6], 1)
        self.no_line(["site m 1", "place m", "folk m 1"], 1)
        self.no_line(["folk m 1", "place m", "site m 1"], 1)
        self.no_line(["limit 1", "place m"], 1)
        self.no_line(["place m", "folk m 1", "site m 1"], 2)

    def test_a_place_line_behind_a_way_or_another_place_line(self):
        self.no_line(LINES[:2] + ["place ford"] + LINES[2:], 2)
        self.no_line(LINES[:1] + ["place ford"] + LINES[1:], 1)
        self.no_line(["place ford"] + LINES, 1)
        self.no_line(["place m", "place m", "site m 1", "folk m 1"], 1)
        self.no_line(["place m", "place n", "site m 1", "folk m 1"], 1)
        self.no_line(["place m", "site m 1", "place m", "folk m 1"], 2)

    def test_a_second_limit_line(self):
        self.no_line(LINES + ["limit 2"], 7)
        self.no_line(LINES + ["limit 3"], 7)
        self.no_line(LINES[:-1] + ["limit 0", "limit 2"], 7)

    def test_of_several_faults_the_first_line(self):
        self.no_line(self.with_line(3, "x")[:5] + ["y"], 3)
        self.no_line(LINES[2:] + ["way a b 1", "x"], 5)
        self.no_line(["x"] + LINES[::-1], 0)
        self.no_line(LINES + ["limit 2", "x"], 7)
        self.no_line(LINES + ["x", "limit 2"], 7)
        # What makes no map or no case is asked behind all lines.
        self.no_line(["way a a 0", "site q 1", "folk q 0", "limit 0", "limit 1"], 4)

    def test_lines_that_make_no_map(self):
        for lines in (
            ["site m 1", "folk m 1"], ["site m 1"], ["folk m 1"], ["limit 1"], ["way a a 1", "site a 1", "folk a 1"],
            ["way a b 0", "site a 1", "folk a 1"], ["way a b 1", "way a b 1", "site a 1", "folk a 1"],
            ["way a b 1", "way b a 2", "site a 1", "folk a 1"], ["way a b 1", "way c d 1", "site a 1", "folk a 1"],
            [f"way a b{name} 1" for name in small_names(30)] + ["site a 1", "folk a 1"],
        ):
            self.no_line(lines, len(lines))

    def test_lines_that_make_no_case(self):
        for lines in (
            LINES[:2], LINES[:4], LINES[:2] + LINES[4:], self.with_line(2, "site q 1"), self.with_line(4, "folk q 1"),
            self.with_line(4, "folk ford 0"), self.with_line(6, "limit 0"), self.with_line(2, "site mill 5"),
            self.with_line(5, "folk ford 2"), self.with_line(3, "site inn 7"), ["place m", "site m 1"], ["place m"],
            ["place m", "site n 1", "folk m 1"], ["place m", "site m 1", "folk m 0"], ["place m", "folk m 1", "limit 1"],
        ):
            self.no_line(lines, len(lines))

    def test_one_site_too_many(self):
        names = small_names(11)
        ways = [f"way {one} {other} 1" for one, other in zip(names, names[1:])]
        lines = ways + [f"site {name} 1" for name in names] + ["folk a 1"]
        self.no_line(lines, len(lines))
        self.assertEqual(len(read_case("\n".join(ways + lines[10:20] + ["folk a 1"]))[1]), 10)

    def test_the_text_without_signs(self):
        self.refused(read_case, "", 0)
        self.refused(read_case, " ", 0)
        self.refused(read_case, "\n", 0)

    def test_what_is_no_text(self):
        for thing in odd_things() + [1, GREAT, LINES, tuple(LINES), "\n".join(LINES).encode()]:
            self.refused(read_case, thing, 0)
        for depth in (1, 30):
            self.refused(read_case, nested(depth, lambda inner: [inner], "\n".join(LINES)), 0)

    def test_bent_texts(self):
        chance = random.Random(251)
        seen = {}
        for turn in range(3000):
            text = case_text(chance_small(chance)) if turn % 3 == 0 else "\n".join(LINES)
            text = bent(chance, text, "abz019 \n-Aefilmotwy")
            due = reckoned_case(text)
            if isinstance(due, int):
                self.refused(read_case, text, due)
                seen["at the end" if due == len(text.split("\n")) else "at a line"] = True
            else:
                self.assertEqual(read_case(text), due)
                seen["read"] = True
        self.assertEqual(len(seen), 3)

    def test_whole_lines_out_in_and_turned_about(self):
        chance = random.Random(252)
        for turn in range(600):
            lines = case_text(chance_small(chance)).split("\n")[:12]
            for change in range(chance.randint(1, 2)):
                at, other = chance.randint(0, len(lines) - 1), chance.randint(0, len(lines))
                how = chance.randint(0, 2)
                line = lines.pop(at) if how < 2 and len(lines) > 1 else lines[at]
                if how:
                    lines.insert(other, chance.choice((line, line, "place a", "limit 3", "way a b 3", "site a 1", "folk b 1")))
            text = "\n".join(lines)
            due = reckoned_case(text)
            if isinstance(due, int):
                self.refused(read_case, text, due)
            else:
                self.assertEqual(read_case(text), due)

    def test_ten_thousand_signs_quickly(self):
        with within(10):
            for text in ("a" * 10000, " " * 10000, "\n" * 10000, "way " * 2500, "place a\n" * 1250, "limit 1\n" * 1250):
                with self.assertRaises(NoText):
                    read_case(text)


class ReadOpening(Told):
    def test_right_ones(self):
        for text, opening in (("a", ("a",)), ("a,b", ("a", "b")), ("a,aa,ab,b", ("a", "aa", "ab", "b")), ("abcdef", ("abcdef",))):
            self.assertEqual(read_opening(text), opening)

    def test_wrong_ones(self):
        for text in ("", ",", "a,", ",a", "a,,b", "b,a", "a,a", "a,b,a", "a b", "a, b", "a ,b", " a", "a ", "A", "a,B", "abcdefg",
                     "a,abcdefg", "a;b", "a.b", "1", "a1", "a\n", "\na", "a\nb", "a,b\n", "aa,a", "b,aa"):
            self.refused(read_opening, text, 0)

    def test_what_is_no_text(self):
        for thing in odd_things() + [1, ("a",), ["a", "b"], b"a,b"]:
            self.refused(read_opening, thing, 0)

    def test_bent_texts(self):
        chance = random.Random(253)
        seen = {True: 0, False: 0}
        for turn in range(2000):
            text = bent(chance, opening_text(chance_paper(chance)[0]), "abz,, ;")
            answer = reckoned_opening(text)
            seen[answer] += 1
            if answer:
                self.assertEqual(read_opening(text), tuple(text.split(",")))
            else:
                self.refused(read_opening, text, 0)
        self.assertGreater(min(seen.values()), 100)


class ReadPaper(Told):
    PARTS = ["a,d", "a>a b>a d>d", "a=0 b=3 d=2", "0"]

    def test_right_ones(self):
        self.assertEqual(read_paper("a,d ; a>a b>a d>d ; a=0 b=3 d=2 ; 0"), (
            ("a", "d"), (("a", "a"), ("b", "a"), ("d", "d")), (("a", 0), ("b", 3), ("d", 2)), 0))
        # Of its form alone: other houses and other places, and any levy.
        self.assertEqual(read_paper(f"x ; q>r ; abcdef={HUGE} ; {GREAT}"), (("x",), (("q", "r"),), (("abcdef", HUGE),), GREAT))
        self.assertEqual(read_paper("a,ab,b ; a>b ab>zzzzzz b>a ; a=1 aa=10 ab=100 ; 7")[1:3], (
            (("a", "b"), ("ab", "zzzzzz"), ("b", "a")), (("a", 1), ("aa", 10), ("ab", 100))))

    def test_each_part_out_of_its_form(self):
        wrong = (
            ("", "d,a", "a,a", "a,", ",a", "a,abcdefg", "a d", "a;d", "A", "a,d ", " a,d", "a, d", "a,,d", "a=0", "a>a", "0"),
            ("", "b>a a>a", "a>a a>d", "a>a  b>a", " a>a", "a>a ", "a>", ">a", "a", "a>a>a", "a=a", "a>abcdefg", "abcdefg>a",
             "a>a,b>a", "a>A", "A>a", "a >a", "a> a", "a>1", "a>>a", "a>a;b>a", "a,d", "a>a b", "b>a ab>a"),
            ("", "b=3 a=0", "a=0 a=1", "a=0  b=3", " a=0", "a=0 ", "a=", "=0", "a", "a=0=0", "a>0", "a=00", "a=01", "a=-1", "a=+1",
             "a=1.0", "a=x", "abcdefg=1", "A=1", "a =1", "a= 1", "a==1", "a=1;b=1", "a=1,b=1", "a=1 b", "a=1_0", "b=3 ab=0"),
            ("", "00", "01", "-1", "+1", " 0", "0 ", "x", "1.0", "1_0", "0;0", "a=0", "0 0", "None"),
        )
        for at, texts in enumerate(wrong):
            for text in texts:
                parts = list(self.PARTS)
                parts[at] = text
                self.refused(read_paper, " ; ".join(parts), 0)

    def test_a_part_too_few_or_too_many(self):
        for at in range(4):
            self.refused(read_paper, " ; ".join(self.PARTS[:at] + self.PARTS[at + 1:]), 0)
            self.refused(read_paper, " ; ".join(self.PARTS[:at] + [self.PARTS[at]] * 2 + self.PARTS[at + 1:]), 0)
        for more in (["0"], [""]):
            self.refused(read_paper, " ; ".join(self.PARTS + more), 0)
            self.refused(read_paper, " ; ".join(more + self.PARTS), 0)
        for text in ("", ";", " ; ", " ;  ;  ; ", " ; ; ; "):
            self.refused(read_paper, text, 0)

    def test_other_marks(self):
        text = " ; ".join(self.PARTS)
        self.assertEqual(paper_text(read_paper(text)), text)
        for mark in (";", "; ", " ;", " , ", "  ;  ", " : ", "\n;\n", " ;\n", " "):
            self.refused(read_paper, mark.join(self.PARTS), 0)
            for at in range(1, 4):
                self.refused(read_paper, " ; ".join(self.PARTS[:at]) + mark + " ; ".join(self.PARTS[at:]), 0)
        for wrong in (text + "\n", "\n" + text, text + " ", " " + text, "(" + text + ")", text + ";", text + " ;", text.upper()):
            self.refused(read_paper, wrong, 0)

    def test_what_is_no_text(self):
        text = " ; ".join(self.PARTS)
        for thing in odd_things() + [1, self.PARTS, tuple(self.PARTS), text.encode(), [text], read_paper(text)]:
            self.refused(read_paper, thing, 0)

    def test_bent_texts(self):
        chance = random.Random(254)
        seen = {True: 0, False: 0}
        for turn in range(3000):
            text = bent(chance, paper_text(chance_paper(chance)), "abz019,> =;")
            answer = reckoned_paper(text)
            seen[answer] += 1
            if answer:
                self.assertEqual(paper_text(read_paper(text)), text)
            else:
                self.refused(read_paper, text, 0)
        self.assertGreater(min(seen.values()), 300)


class ReadTree(Told):
    def test_right_ones(self):
        self.assertEqual(read_tree("leaf(a=0 ab=12;3)"), LEAF)
        self.assertEqual(read_tree("split(x;leaf(a=0 ab=12;3);leaf(b=7;0))"), ("split", "x", LEAF, ("leaf", (("b", 7),), 0)))
        # Of its form alone: a site may be split twice on one way, and be any name.
        self.assertEqual(read_tree("split(leaf;split(leaf;leaf(leaf=1;0);leaf(split=2;0));leaf(a=3;0))"), (
            "split", "leaf", ("split", "leaf", ("leaf", (("leaf", 1),), 0), ("leaf", (("split", 2),), 0)),
            ("leaf", (("a", 3),), 0)))
        self.assertEqual(read_tree(f"leaf(a={HUGE};{HUGE})"), ("leaf", (("a", HUGE),), HUGE))

    def test_leaves_out_of_their_form(self):
        for text in (
            "leaf(;0)", "leaf()", "leaf(a=0)", "leaf(a=0;)", "leaf(a=0;0", "leaf(a=0;0))", "(a=0;0)", "leaf[a=0;0]", "leaf(a=0,0)",
            "leaf(a=0;0;0)", "leaf (a=0;0)", "leaf( a=0;0)", "leaf(a=0 ;0)", "leaf(a=0; 0)", "leaf(a=0;0 )", " leaf(a=0;0)",
            "leaf(a=0;0) ", "leaf(a=0;0)\n", "Leaf(a=0;0)", "LEAF(a=0;0)", "leaff(a=0;0)", "xleaf(a=0;0)", "leaf((a=0;0))",
            "leaf(a>0;0)", "leaf(b=0 a=0;0)", "leaf(a=0 a=0;0)", "leaf(a=0  b=0;0)", "leaf(a=00;0)", "leaf(a=0;00)", "leaf(a=-1;0)",
            "leaf(a=0;-1)", "leaf(abcdefg=0;0)", "leaf(A=0;0)", "leaf(a;0)", "leaf(a=;0)", "leaf(=0;0)", "leaf(a=0;x)", "leaf",
            "leaf(", "a=0;0", "", " ", "leaf(a=0;0)leaf(a=0;0)", "leaf(a=0;0);leaf(a=0;0)", "leaf(a=0 ; 0)", ")", "(", ";",
        ):
            self.refused(read_tree, text, 0)

    def test_splits_out_of_their_form(self):
        one, other = "leaf(a=0;0)", "leaf(b=1;2)"
        self.assertEqual(tree_text(read_tree(f"split(a;{one};{other})")), f"split(a;{one};{other})")
        for text in (
            f"split(a;{one};{other}", f"split(a;{one};{other}))", f"split(a;{one})", f"split(a;{one};{other};{one})",
            f"split({one};{other})", f"split(;{one};{other})", f"split(A;{one};{other})", f"split(abcdefg;{one};{other})",
            f"split(a,b;{one};{other})", f"split(a;;{other})", f"split(a;{one};)", f"split(a;{one},{other})",
            f"split(a {one};{other})", f"split(a;{one}{other})", f"split(a;{one}; {other})", f"split(a ;{one};{other})",
            f"split(a; {one};{other})", f"split (a;{one};{other})", f"split[a;{one};{other}]", f"Split(a;{one};{other})",
            f"splits(a;{one};{other})", f"(a;{one};{other})", f"split(a;({one});{other})", f"split(a;{one};{other}) ",
            f" split(a;{one};{other})", f"split(a;{one};{other})\n", f"split(a;a;{other})", f"split(a;{one};b)", "split(a)",
            "split(", "split", "split(a;", f"split(a;{one}", f"split(a;{one};", f"split(a;{one};split(b;{one};{other})",
            f"split(a;split(b;{one};{other});{other}", f"split(1;{one};{other})", f"split(a;{one}){other})",
        ):
            self.refused(read_tree, text, 0)

    def test_thirty_deep_and_thirty_one(self):
        for side in ("first", "second", "turns"):
            for deep in (29, 30):
                self.assertEqual(read_tree(tree_text(deep_tree(deep, side))), deep_tree(deep, side))
            for deep in (31, 32, 40, 200):
                self.refused(read_tree, tree_text(deep_tree(deep, side)), 0)

    def test_a_bracket_too_few_or_too_many_thirty_deep_quickly(self):
        for side in ("first", "second", "turns"):
            text = tree_text(deep_tree(30, side))
            with within(10):
                for wrong in (text[:-1], text + ")", text[1:], text.replace(")", "", 1), text.replace(";", "", 1),
                              text.replace("(", "((", 1), text[:-2], text.replace("split(ab;", "split(ab", 29)):
                    self.refused(read_tree, wrong, 0)

    def test_ten_thousand_signs_quickly(self):
        with within(10):
            for text in ("split(a;" * 1250, "leaf(" * 2000, ";" * 10000, "(" * 10000, "split(" * 1600, "leaf(a=0;0)" * 900,
                         "split(a;leaf(a=0;0);" * 500, "split(a;split(a;leaf(a=0;0);leaf(a=0;0));" * 200, "a" * 10000):
                self.refused(read_tree, text, 0)

    def test_what_is_no_text(self):
        for thing in odd_things() + [1, LEAF, ("split", "a", LEAF, LEAF), b"leaf(a=0;0)", ["leaf(a=0;0)"]]:
            self.refused(read_tree, thing, 0)

    def test_bent_texts(self):
        chance = random.Random(255)
        seen = {True: 0, False: 0}
        for turn in range(3000):
            text = bent(chance, tree_text(chance_tree_of_tries(chance, chance.randint(1, 4))), "abz019(); =")
            answer = reckoned_tree(text)
            seen[answer] += 1
            if answer:
                self.assertEqual(tree_text(read_tree(text)), text)
            else:
                self.refused(read_tree, text, 0)
        self.assertGreater(min(seen.values()), 300)


if __name__ == "__main__":
    unittest.main()
