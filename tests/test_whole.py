"""[3] sentence by sentence, on drawn small cases; [2] over the whole program; and the interface, by its names."""

import copy
import importlib
import inspect
import random
import unittest

from openhouses.best import best_of
from openhouses.cases import case_of
from openhouses.checker import lets_by, span
from openhouses.costs import cost, goings
from openhouses.covers import cover_within, is_apart, is_cover, least_far
from openhouses.desk import Desk
from openhouses.errors import HouseError, NoCover
from openhouses.exchanges import bettered, is_settled
from openhouses.fars import fars
from openhouses.fees import fees_stand, least_share, low_by
from openhouses.floors import holds, low_of
from openhouses.maps import map_of
from openhouses.papers import paper_of, prices_of
from openhouses.plain import plain_best
from openhouses.prices import low
from openhouses.reader import read_case, read_opening, read_paper, read_tree
from openhouses.renamed import renamed_case, renamed_opening, renamed_paper
from openhouses.shares import share_of
from openhouses.tables import best_by_table, table_of
from openhouses.texts import case_text, opening_text, paper_text, tree_text
from openhouses.town import Town
from openhouses.trees import is_line, is_tree
from openhouses.tries import tries_hold
from reckoned import (
    Reckoned, all_openings, chance_levy, chance_line, chance_prices, chance_rooms, chance_web, even_case, reckoned_cost,
    reckoned_is_share, rows_from, share_cost,
)
from things import chance_tree, small_names, table_of_fars

GREAT = 10 ** 30 - 1


def drawn(seed, turns, make=chance_web, limits=(None, 1, 2, 3, 11)):
    """Small cases, each with the table of its fars and a list of all openings with what they cost."""
    chance = random.Random(seed)
    for turn in range(turns):
        most = chance.choice((1, 3, 9, GREAT))
        case = even_case(chance, make(chance, chance.randint(1, 6), most), chance.choice((1, 3, 9)), limits)
        table = table_of_fars(case[0])
        yield chance, case, table, [(reckoned_cost(case, table, opening), opening) for opening in all_openings(case)]


def chance_tries(chance, case, table, free):
    """A tree of tries with prices of any kind, mostly such as stand."""
    if not free or chance.random() < 0.4:
        levy = chance_levy(chance, case, 9)
        prices = chance_prices(chance, case, table, levy, chance.random() < 0.5)
        if chance.random() < 0.3:
            prices = tuple([(place, price + chance.randint(0, 3)) for place, price in prices])
        return ("leaf", prices, levy)
    site = chance.choice(free)
    rest = [place for place in free if place != site]
    return ("split", site, chance_tries(chance, case, table, rest), chance_tries(chance, case, table, rest))


class Promise(unittest.TestCase):
    def test_what_an_opening_costs(self):
        for chance, case, table, costs in drawn(300, 40):
            for number, opening in costs:
                self.assertEqual(cost(case, opening), number)

    def test_whatever_paper_is_let_by(self):
        seen = 0
        for chance, case, table, costs in drawn(301, 80):
            for turn in range(5):
                number, opening = chance.choice(costs)
                levy = chance_levy(chance, case, 9)
                prices = chance_prices(chance, case, table, levy, chance.random() < 0.5)
                if chance.random() < 0.5:
                    prices = tuple([(place, price + chance.randint(0, 2)) for place, price in prices])
                paper = (opening, tuple([(place, chance.choice(opening)) for place, many in case[2]]), prices, levy)
                if lets_by(case, paper):
                    seen += 1
                    least, most = span(case, paper)
                    self.assertLessEqual(least, min(costs)[0])
                    self.assertLessEqual(number, most)
        self.assertGreater(seen, 100)

    def test_a_paper_on_a_line_and_on_a_tree_without_a_limit(self):
        for make, limits in ((chance_line, (None, 1, 2, 3, 11)), (chance_tree, (None,))):
            for chance, case, table, costs in drawn(302, 60, make, limits):
                self.assertTrue(is_line(case[0]) or is_tree(case[0]) and case[3] is None)
                best = min(costs)[0]
                paper = paper_of(case)
                self.assertIs(lets_by(case, paper), True)
                self.assertEqual(span(case, paper), (best, best))
                self.assertIn((best, paper[0]), costs)
                self.assertEqual(low(case, *prices_of(case)), best)

    def test_tables_on_trees(self):
        lower = 0
        for chance, case, table, costs in drawn(303, 40, chance_tree):
            case = case_of(case[0], case[1][:4], case[2], case[3])
            best = min([(reckoned_cost(case, table, opening), opening) for opening in all_openings(case)])[0]
            number, opening = best_by_table(case)
            self.assertEqual((number, cost(case, opening)), (best, best))
            self.assertIn(opening, all_openings(case))
            self.assertIs(holds(case, table_of(case)), True)
            self.assertEqual(low_of(case, table_of(case)), best)
            numbers = {first: number if chance.random() < 0.8 else chance.choice((0, (number or 0) // 2))
                       for first, number in table_of(case)}
            rows = rows_from(numbers) if chance.random() < 0.3 else rows_from(Reckoned(case).lowered(numbers))
            if holds(case, rows):
                self.assertLessEqual(low_of(case, rows), best)
                lower += low_of(case, rows) < best
        self.assertGreater(lower, 5)

    def test_trees_of_tries(self):
        for chance, case, table, costs in drawn(304, 60):
            best, opening, tree = best_of(case)
            self.assertEqual((best, opening), min(costs))
            self.assertIs(tries_hold(case, best, tree), True)
            self.assertIs(tries_hold(case, best + 1, tree), False)

    def test_whatever_tree_of_tries_is_let_by(self):
        seen = {True: 0, False: 0}
        for chance, case, table, costs in drawn(305, 150):
            tree = chance_tries(chance, case, table, [place for place, charge in case[1]])
            for number in (0, min(costs)[0] // 2, min(costs)[0], min(costs)[0] + 1, chance.choice(costs)[0] + 1):
                answer = tries_hold(case, number, tree)
                seen[answer] += 1
                self.assertTrue(not answer or number <= min(costs)[0])
        self.assertGreater(min(seen.values()), 50)

    def test_settled_openings(self):
        for chance, case, table, costs in drawn(306, 60, limits=(None,)):
            for number, opening in costs:
                if is_settled(case, opening):
                    self.assertLessEqual(number, 3 * min(costs)[0])
        for chance, case, table, costs in drawn(307, 60, limits=(1, 2, 3, 11)):
            case = case_of(case[0], [(place, 0) for place, charge in case[1]], case[2], case[3])
            best = plain_best(case)[0]
            for number, opening in costs:
                self.assertLessEqual(cost(case, bettered(case, opening)[-1]), 5 * best)

    def test_covers_and_folk_apart(self):
        for chance, case, table, costs in drawn(308, 100):
            worst = {opening: max([min([table[place, house] for house in opening]) for place, many in case[2]])
                     for opening in all_openings(case_of(*case[:3], None))}
            far = chance.choice(list(worst.values()))
            cover, apart = cover_within(case, far)
            self.assertEqual(len(cover), min([len(opening) for opening in worst if worst[opening] <= far]))
            self.assertLessEqual(worst[tuple(cover)], far)
            self.assertTrue(is_cover(case, far, cover) and is_apart(case, far, apart))
            self.assertTrue(len(apart) == len(cover) if is_tree(case[0]) else len(apart) <= len(cover))
            many = chance.randint(1, 4)
            self.assertEqual(least_far(case, many)[0], min([worst[opening] for opening in worst if len(opening) <= many]))

    def test_rooms(self):
        seen = {"share": 0, "lack": 0}
        for chance, case, table, costs in drawn(309, 100):
            opening = chance.choice(costs)[1]
            rooms = chance_rooms(chance, case, opening)
            told = least_share(case, opening, rooms)
            seen[told[0]] += 1
            self.assertEqual(share_of(case, opening, rooms, None)[0], told[0])
            if told[0] == "share":
                word, share, prices, fees = told
                self.assertTrue(reckoned_is_share(case, table, rooms, None, share))
                self.assertTrue(fees_stand(case, opening, prices, fees))
                least = low_by(case, opening, rooms, prices, fees)
                self.assertEqual(share_cost(table, share), least)
                # Another share costs no less.
                self.assertGreaterEqual(share_cost(table, share_of(case, opening, rooms, None)[1]), least)
        self.assertGreater(min(seen.values()), 15)

    def test_a_town(self):
        for chance, case, table, costs in drawn(310, 40):
            town = Town(case, chance.choice(costs)[1])
            for step in range(8):
                before = {place: (house, far) for place, house, far in town.goings()}
                place = chance.choice(case[0][0])
                deed = chance.choice((
                    lambda: town.come(place, 2), lambda: town.leave(place, 1), lambda: town.charge(place, 5),
                    lambda: town.begin(place), lambda: town.shut(place), lambda: town.back(),
                    lambda: town.length(*chance.choice(case[0][1] or (("a", "b", 1),))[:2], chance.randint(1, 9)),
                ))
                try:
                    told = deed()
                except HouseError:
                    continue
                anew = Town(case_of(*town.case()), town.opening())
                self.assertEqual((town.goings(), town.cost()), (anew.goings(), anew.cost()))
                behind = {place: (house, far) for place, house, far in goings(town.case(), town.opening())}
                self.assertEqual(told, [(name, before.get(name), behind.get(name)) for name in case[0][0]
                                        if before.get(name) != behind.get(name)])

    def test_places_named_anew(self):
        for chance, case, table, costs in drawn(311, 40):
            places = case[0][0]
            names = dict(zip(places, chance.sample(small_names(30), len(places))))
            made = renamed_case(case, names)
            for place in places:
                self.assertEqual(fars(made[0], names[place]), {names[other]: table[place, other] for other in places})
            for number, opening in costs:
                self.assertEqual(cost(made, renamed_opening(case, opening, names)), number)
            self.assertEqual(plain_best(made)[0], min(costs)[0])
            paper = paper_of(case)
            self.assertEqual(span(made, renamed_paper(case, paper, names)), span(case, paper))
            far = chance.choice(list(table.values()))
            try:
                cover, apart = cover_within(case, far)
            except NoCover:
                self.assertRaises(NoCover, cover_within, made, far)
            else:
                self.assertEqual([len(part) for part in cover_within(made, far)], [len(cover), len(apart)])

    def test_what_is_written_reads_back(self):
        for chance, case, table, costs in drawn(312, 40):
            paper, tree = paper_of(case), best_of(case)[2]
            self.assertEqual(read_case(case_text(case)), case)
            self.assertEqual(read_paper(paper_text(paper)), paper)
            self.assertEqual(read_tree(tree_text(tree)), tree)
            self.assertEqual(read_opening(opening_text(paper[0])), paper[0])
            desk = Desk(case_text(case))
            self.assertEqual(desk.say("case"), case_text(case))
            self.assertEqual(desk.say("paper"), paper_text(paper))
            if min(costs)[0] <= GREAT:
                self.assertEqual(desk.say(f"holds {min(costs)[0]} {tree_text(tree)}"), "yes")


WEB = map_of(list("abcd"), [("a", "b", 2), ("b", "c", 3), ("c", "d", 4)])
CASE = case_of(WEB, [("a", 1), ("c", 0), ("d", 7)], [("a", 3), ("b", 1), ("d", 2)], 2)
OPEN = ("a", "c")
ROOMS = (("a", 3), ("c", 3))
PAPER = paper_of(CASE)
PRICES, LEVY = prices_of(CASE)
TREE = best_of(CASE)[2]
PAID, FEES = (("a", 0), ("b", 2), ("d", 4)), (("a", 0), ("c", 0))
NAMES = {"a": "mill", "b": "ford", "c": "inn", "d": "zoo"}
# Each function of the interface, with what it may be handed.
CALLS = {
    "names": {"is_name": ["a"]},
    "maps": {"map_of": [["b", "a"], [("b", "a", 1)]]},
    "fars": {"far": [WEB, "a", "d"], "fars": [WEB, "a"], "path": [WEB, "a", "d"]},
    "trees": {"is_tree": [WEB], "is_line": [WEB], "parent": [WEB, "b"], "children": [WEB, "b"], "below": [WEB, "b"]},
    "cases": {"case_of": [WEB, [("c", 0), ("a", 1)], [("b", 1), ("a", 3)], None]},
    "openings": {"is_opening": [CASE, ["a", "c"]], "openings": [CASE]},
    "costs": {"goings": [CASE, OPEN], "houses_cost": [CASE, OPEN], "ways_cost": [CASE, OPEN], "cost": [CASE, OPEN]},
    "plain": {"plain_best": [CASE]},
    "prices": {"gets": [CASE, PRICES, "a"], "stand": [CASE, list(PRICES), LEVY], "low": [CASE, PRICES, LEVY],
               "is_full": [CASE, PRICES, LEVY]},
    "checker": {"lets_by": [CASE, list(PAPER)], "span": [CASE, PAPER]},
    "papers": {"prices_of": [CASE], "paper_of": [CASE]},
    "tries": {"tries_hold": [CASE, 0, TREE]},
    "best": {"best_of": [CASE]},
    "tables": {"table_of": [CASE], "best_by_table": [CASE]},
    "floors": {"holds": [CASE, table_of(CASE)], "low_of": [CASE, table_of(CASE)]},
    "exchanges": {"exchanges": [CASE, OPEN], "is_settled": [CASE, OPEN], "bettered": [CASE, ("a",)]},
    "covers": {"cover_within": [CASE, 5], "is_cover": [CASE, 5, ["a", "c"]], "is_apart": [CASE, 1, ["a", "d"]],
               "least_far": [CASE, 2]},
    "shares": {"share_of": [CASE, OPEN, ROOMS, None], "is_share": [CASE, OPEN, ROOMS, None, [("a", "a", 3)]],
               "is_lack": [CASE, OPEN, ROOMS, 0, ["a", "b"]]},
    "fees": {"least_share": [CASE, OPEN, ROOMS], "fees_stand": [CASE, OPEN, PAID, list(FEES)],
             "low_by": [CASE, OPEN, ROOMS, PAID, FEES]},
    "renamed": {"renamed_map": [WEB, NAMES], "renamed_case": [CASE, NAMES], "renamed_opening": [CASE, OPEN, NAMES],
                "renamed_paper": [CASE, PAPER, NAMES]},
    "texts": {"case_text": [CASE], "opening_text": [OPEN], "paper_text": [PAPER], "tree_text": [TREE]},
    "reader": {"read_case": [case_text(CASE)], "read_opening": ["a,c"], "read_paper": [paper_text(PAPER)],
               "read_tree": [tree_text(TREE)]},
}
CLASSES = {
    "town": {"Town": {"come": 2, "leave": 2, "length": 3, "charge": 2, "begin": 1, "shut": 1, "back": 0, "case": 0,
                      "opening": 0, "goings": 0, "cost": 0}},
    "desk": {"Desk": {"say": 1}},
}


def all_calls():
    """Each function of the interface, with what it may be handed."""
    for module, functions in CALLS.items():
        for name, things in functions.items():
            yield f"{module}.{name}", getattr(importlib.import_module(f"openhouses.{module}"), name), copy.deepcopy(things)


def spoil(thing):
    """Whatever can be changed in the thing is changed."""
    for inner in list(thing.values()) if isinstance(thing, dict) else thing if isinstance(thing, (list, tuple)) else ():
        spoil(inner)
    if isinstance(thing, (list, dict)):
        thing.clear()
    if isinstance(thing, list):
        thing.append("spoilt")


class Interface(unittest.TestCase):
    def test_each_takes_what_the_document_lists(self):
        for name, function, things in all_calls():
            self.assertEqual(len(inspect.signature(function).parameters), len(things), name)
        for module, classes in CLASSES.items():
            for name, methods in classes.items():
                made = getattr(importlib.import_module(f"openhouses.{module}"), name)
                for method, many in methods.items():
                    self.assertEqual(len(inspect.signature(getattr(made, method)).parameters), many + 1, method)

    def test_what_is_handed_in_stays(self):
        for name, function, things in all_calls():
            before = copy.deepcopy(things)
            function(*things)
            self.assertEqual(things, before, name)

    def test_what_is_changed_behind_a_call_changes_nothing(self):
        for name, function, things in all_calls():
            told = function(*copy.deepcopy(things))
            handed = copy.deepcopy(things)
            again = function(*handed)
            spoil(handed)
            self.assertEqual(again, told, name)

    def test_what_was_told_and_then_changed_changes_no_later_answer(self):
        for name, function, things in all_calls():
            told = function(*things)
            first = copy.deepcopy(told)
            spoil(told)
            self.assertEqual(function(*things), first, name)
        for name, function, things in all_calls():
            self.assertEqual(function(*things), function(*things), name)

    def test_what_was_told_stays_when_all_else_is_asked(self):
        told = [(name, function(*things)) for name, function, things in all_calls()]
        before = copy.deepcopy(told)
        for name, function, things in all_calls():
            spoil(function(*things))
        self.assertEqual(told, before)


if __name__ == "__main__":
    unittest.main()
