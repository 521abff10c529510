"""[23] Places named anew; [3] as far as it speaks of them; and [2] of these."""

import copy
import itertools
import random
import unittest

from openhouses.best import best_of
from openhouses.cases import case_of
from openhouses.checker import lets_by, span
from openhouses.costs import cost
from openhouses.errors import HouseError, NoNames
from openhouses.fars import far
from openhouses.maps import map_of
from openhouses.openings import is_opening, openings
from openhouses.papers import paper_of, prices_of
from openhouses.plain import plain_best
from openhouses.prices import low
from openhouses.renamed import renamed_case, renamed_map, renamed_opening, renamed_paper
from reckoned import all_openings, chance_web, even_case
from things import Agreeing, nested, odd_things, shown, small_names

GREAT = 10 ** 30 - 1
HUGE = 10 ** 100 - 1
WEB = map_of(list("abcd"), [("a", "b", 2), ("b", "c", 3), ("c", "d", 4), ("a", "d", 9)])
CASE = case_of(WEB, [("a", 1), ("c", 0), ("d", 7)], [("a", 3), ("b", 1), ("d", 2)], 2)
OPEN = ("a", "c")
PAPER = (OPEN, (("a", "a"), ("b", "c"), ("d", "a")), (("a", 1), ("b", 5), ("d", 0)), 3)
TURNED = {"a": "d", "b": "c", "c": "b", "d": "a"}
OTHERS = {"a": "mill", "b": "ford", "c": "inn", "d": "zoo"}
LONGER = {"a": "ab", "b": "a", "c": "abc", "d": "aa"}


def all_renamed(names):
    return (renamed_map(WEB, names), renamed_case(CASE, names), renamed_opening(CASE, OPEN, names),
            renamed_paper(CASE, PAPER, names))


def chance_names(chance, places):
    """Other names for the places, some of them the old ones, with some more in the dict."""
    pool = list(places) + small_names(40) + ["ab", "abc", "abcdef", "zzzzzz", "ba", "aaaaaa"]
    names = dict(zip(places, chance.sample(sorted(set(pool)), len(places))))
    for more in chance.sample(pool, 3):
        names.setdefault(more, chance.choice(pool))
    keys = list(names)
    chance.shuffle(keys)
    return {key: names[key] for key in keys}


def chance_case_paper(chance):
    most = chance.choice((1, 3, 9, GREAT))
    case = even_case(chance, chance_web(chance, chance.randint(1, 8), most), most, (None, 1, 2, 3, 11))
    names = list(case[0][0])
    opening = tuple(sorted(chance.sample(names, chance.randint(1, len(names)))))
    rows = [tuple(sorted(chance.sample(names, chance.randint(1, len(names))))) for turn in range(2)]
    paper = (opening, tuple([(place, chance.choice(names)) for place in rows[0]]),
             tuple([(place, chance.choice((0, 1, HUGE))) for place in rows[1]]), chance.choice((0, 1, HUGE)))
    return case, chance.choice(all_openings(case)), paper


class Renamed(unittest.TestCase):
    def test_places_turned_among_themselves(self):
        web = map_of(list("abcd"), [("d", "c", 2), ("c", "b", 3), ("b", "a", 4), ("d", "a", 9)])
        self.assertEqual(all_renamed(TURNED), (
            web,
            case_of(web, [("d", 1), ("b", 0), ("a", 7)], [("d", 3), ("c", 1), ("a", 2)], 2),
            ("b", "d"),
            (("b", "d"), (("a", "d"), ("c", "b"), ("d", "d")), (("a", 0), ("c", 5), ("d", 1)), 3),
        ))

    def test_other_names(self):
        web = (("ford", "inn", "mill", "zoo"), (("ford", "inn", 3), ("ford", "mill", 2), ("inn", "zoo", 4), ("mill", "zoo", 9)))
        self.assertEqual(all_renamed(OTHERS), (
            web,
            (web, (("inn", 0), ("mill", 1), ("zoo", 7)), (("ford", 1), ("mill", 3), ("zoo", 2)), 2),
            ("inn", "mill"),
            (("inn", "mill"), (("ford", "inn"), ("mill", "mill"), ("zoo", "mill")), (("ford", 5), ("mill", 1), ("zoo", 0)), 3),
        ))

    def test_names_that_are_beginnings_of_one_another(self):
        web = (("a", "aa", "ab", "abc"), (("a", "ab", 2), ("a", "abc", 3), ("aa", "ab", 9), ("aa", "abc", 4)))
        self.assertEqual(all_renamed(LONGER), (
            web,
            (web, (("aa", 7), ("ab", 1), ("abc", 0)), (("a", 1), ("aa", 2), ("ab", 3)), 2),
            ("ab", "abc"),
            (("ab", "abc"), (("a", "abc"), ("aa", "ab"), ("ab", "ab")), (("a", 5), ("aa", 0), ("ab", 1)), 3),
        ))

    def test_the_same_names(self):
        same = {name: name for name in "abcd"}
        self.assertEqual(all_renamed(same), (WEB, CASE, OPEN, PAPER))

    def test_more_names_in_the_dict(self):
        for names in (TURNED, OTHERS, LONGER):
            for more in ({"q": "r"}, {"q": "mill", "r": "mill"}, {"e": "a", "f": "d", "mill": "zoo"}, {"ab": "ab"}):
                self.assertEqual(all_renamed({**names, **more}), all_renamed(names))
                self.assertEqual(all_renamed({**more, **names}), all_renamed(names))

    def test_one_place(self):
        web = map_of(["m"], [])
        case = case_of(web, [("m", 3)], [("m", 2)], None)
        names = {"m": "inn"}
        self.assertEqual(renamed_map(web, names), (("inn",), ()))
        self.assertEqual(renamed_case(case, names), ((("inn",), ()), (("inn", 3),), (("inn", 2),), None))
        self.assertEqual(renamed_opening(case, ("m",), names), ("inn",))
        paper = (("m",), (("m", "m"),), (("m", 5),), 0)
        self.assertEqual(renamed_paper(case, paper, names), (("inn",), (("inn", "inn"),), (("inn", 5),), 0))

    def test_papers_of_their_form_with_other_places_of_the_map(self):
        # b is no site and c none of the folk's; the houses gone to aren't open; the levy is one without a limit, too.
        paper = (("b", "d"), (("c", "a"),), (("b", HUGE), ("c", 0)), HUGE)
        for case in (CASE, case_of(*CASE[:3], None)):
            self.assertEqual(renamed_paper(case, paper, TURNED), (("a", "c"), (("b", "d"),), (("b", 0), ("c", HUGE)), HUGE))

    def test_kinds_of_what_is_told(self):
        for told in all_renamed(OTHERS):
            self.assertIs(type(told), tuple)
        web, case, opening, paper = all_renamed(OTHERS)
        self.assertEqual(web, map_of(*web))
        self.assertEqual(case, case_of(*case))
        self.assertIs(is_opening(case, opening), True)
        for part in paper[:3]:
            self.assertIs(type(part), tuple)
        self.assertEqual({type(row) for row in paper[1] + paper[2]}, {tuple})

    def test_named_back(self):
        for names in (TURNED, OTHERS, LONGER):
            web, case, opening, paper = all_renamed(names)
            back = {new: old for old, new in names.items()}
            self.assertEqual(renamed_map(web, back), WEB)
            self.assertEqual(renamed_case(case, back), CASE)
            self.assertEqual(renamed_opening(case, opening, back), OPEN)
            self.assertEqual(renamed_paper(case, paper, back), PAPER)

    def test_each_turn_of_the_places(self):
        for turned in itertools.permutations("abcd"):
            names = dict(zip("abcd", turned))
            web, case, opening, paper = all_renamed(names)
            self.assertEqual(web, map_of(list(turned), [(names[one], names[other], far) for one, other, far in WEB[1]]))
            self.assertEqual(case, case_of(web, [(names[place], charge) for place, charge in CASE[1]],
                                           [(names[place], many) for place, many in CASE[2]], 2))
            self.assertEqual(opening, tuple(sorted([names[place] for place in OPEN])))
            self.assertEqual(paper[1], tuple(sorted([(names[place], names[house]) for place, house in PAPER[1]])))
            self.assertEqual(paper[2], tuple(sorted([(names[place], price) for place, price in PAPER[2]])))

    def test_chance_cases(self):
        chance = random.Random(230)
        for turn in range(80):
            case, opening, paper = chance_case_paper(chance)
            names = chance_names(chance, case[0][0])
            made, houses = renamed_case(case, names), renamed_opening(case, opening, names)
            told = renamed_paper(case, paper, names)
            self.assertEqual(made[0], renamed_map(case[0], names))
            self.assertEqual(made, case_of(*made))
            self.assertEqual(told[0], tuple(sorted([names[place] for place in paper[0]])))
            self.assertEqual(told[1], tuple(sorted([(names[place], names[house]) for place, house in paper[1]])))
            self.assertEqual(told[2], tuple(sorted([(names[place], price) for place, price in paper[2]])))
            self.assertEqual(told[3], paper[3])
            back = {names[place]: place for place in case[0][0]}
            self.assertEqual(renamed_case(made, back), case)
            self.assertEqual(renamed_opening(made, houses, back), opening)
            self.assertEqual(renamed_paper(made, told, back), paper)

    def test_all_fars_costs_lows_and_bests_stay(self):
        chance = random.Random(231)
        for turn in range(40):
            case, opening, paper = chance_case_paper(chance)
            names = chance_names(chance, case[0][0])
            made = renamed_case(case, names)
            for one, other in itertools.product(case[0][0], repeat=2):
                self.assertEqual(far(made[0], names[one], names[other]), far(case[0], one, other))
            for houses in chance.sample(openings(case), min(5, len(openings(case)))):
                self.assertEqual(cost(made, renamed_opening(case, houses, names)), cost(case, houses))
            self.assertEqual(plain_best(made)[0], plain_best(case)[0])
            self.assertEqual(best_of(made)[0], best_of(case)[0])
            right = paper_of(case)
            renamed = renamed_paper(case, right, names)
            self.assertIs(lets_by(made, renamed), True)
            self.assertEqual(span(made, renamed), span(case, right))
            prices, levy = prices_of(case)
            self.assertEqual(low(made, renamed[2], renamed[3]), low(case, prices, levy))


class Refused(unittest.TestCase):
    def refused(self, names):
        for ask in (lambda: renamed_map(WEB, names), lambda: renamed_case(CASE, names),
                    lambda: renamed_opening(CASE, OPEN, names), lambda: renamed_paper(CASE, PAPER, names)):
            with self.assertRaises(NoNames, msg=shown(names)) as caught:
                ask()
            self.assertIsInstance(caught.exception, HouseError)

    def test_a_dict_that_lacks_a_place(self):
        for lacking in "abcd":
            for names in (TURNED, OTHERS):
                self.refused({old: new for old, new in names.items() if old != lacking})
                self.refused({("q" if old == lacking else old): new for old, new in names.items()})
        self.refused({})
        self.refused({"q": "r"})

    def test_two_places_alike(self):
        for one, other in itertools.permutations("abcd", 2):
            for names in (TURNED, OTHERS, LONGER):
                self.refused({**names, one: names[other]})
        self.refused({name: "inn" for name in "abcd"})

    def test_what_is_no_name(self):
        for bad in ("", "A", "abcdefg", "a b", "a1", " a", "a\n", "a,b", None, True, 1, 0, b"a", ("a",), -1):
            for place in "abcd":
                self.refused({**OTHERS, place: bad})
            # Beside the map's places, too.
            self.refused({**OTHERS, "q": bad})
            self.refused({bad: "q", **OTHERS})
            self.refused({**OTHERS, bad: bad})

    def test_things_of_every_kind_in_the_place_of_a_name(self):
        for thing in odd_things() + [1, GREAT, ""]:
            self.refused({**OTHERS, "b": thing})
            self.refused({**OTHERS, "q": thing})

    def test_things_of_every_kind_in_the_place_of_a_key(self):
        for thing in (None, True, 0, 1, -1, b"", b"a", (), ("a",), ("a", "b"), frozenset("a"), range(3), len, Agreeing(), "",
                      nested(30, lambda inner: (inner,), "a"), nested(5, lambda inner: (inner, inner), "a"), Ellipsis, str):
            # One that equals whatever it is compared with stays as a key where it stands there first.
            self.refused({thing: "q", **OTHERS})

    def test_things_of_every_kind(self):
        for thing in odd_things() + [1, GREAT, "", "abcd", list(OTHERS.items()), tuple(OTHERS.items()), list(OTHERS),
                                     set(OTHERS), OTHERS.items(), [OTHERS], (OTHERS,), {"a": OTHERS}]:
            self.refused(thing)

    def test_right_ones_nested_in_something(self):
        for depth in (1, 2, 29):
            for wrap in (lambda inner: [inner], lambda inner: (inner,), lambda inner: {"a": inner}):
                self.refused(nested(depth, wrap, OTHERS))
                self.refused({**OTHERS, "a": nested(depth, wrap, "mill")})


class HandedInAndTold(unittest.TestCase):
    def test_what_is_handed_in_stays(self):
        names = {**OTHERS, "q": "r"}
        before = copy.deepcopy((WEB, CASE, OPEN, PAPER, list(names.items())))
        all_renamed(names)
        self.assertEqual((WEB, CASE, OPEN, PAPER, list(names.items())), before)

    def test_a_dict_changed_behind_it_changes_nothing(self):
        names = dict(OTHERS)
        told = all_renamed(names)
        before = copy.deepcopy(told)
        names["a"] = "q"
        names.pop("b")
        self.assertEqual(told, before)
        self.assertEqual(all_renamed(OTHERS), before)


if __name__ == "__main__":
    unittest.main()
