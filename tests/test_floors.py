"""[16] Which tables hold, and their low; [3] as far as it speaks of them; and [2] of these."""

import copy
import random
import unittest

from openhouses.cases import case_of
from openhouses.floors import holds, low_of
from openhouses.maps import map_of
from openhouses.plain import plain_best
from openhouses.tables import table_of
from reckoned import Reckoned, chance_line, even_case, rows_from
from things import chance_tree, line_ways, nested, odd_things, shown, small_names, within

GREAT = 10 ** 30 - 1
HUGE = 10 ** 100 - 1
LIMITS = (None, 1, 2, 3, 11)
# a is the root, with b and c below it, and d below c.
WEB = map_of(list("abcd"), [("a", "b", 2), ("a", "c", 5), ("c", "d", 1)])
CASE = case_of(WEB, [("b", 3), ("d", 2)], [("a", 4), ("c", 2), ("d", 1)], None)
LIMITED = case_of(WEB, [("b", 3), ("d", 2)], [("a", 4), ("c", 2), ("d", 1)], 1)


def small_case(chance):
    """A case on a small tree, such as can be reckoned plainly."""
    web = chance.choice((chance_line, chance_tree))(chance, chance.randint(1, 6), chance.choice((1, 3, 9, GREAT)))
    case = even_case(chance, web, chance.choice((1, 3, 20)), LIMITS)
    return case_of(case[0], case[1][:4], case[2], case[3])


def with_number(table, at, number):
    """The table with another number at this row."""
    return table[:at] + [(table[at][0], number)] + table[at + 1:]


class Told(unittest.TestCase):
    def told(self, case, table, answer):
        self.assertIs(holds(case, table), answer, shown((case[1:], table)))


class Holds(Told):
    def test_the_table_that_is_told(self):
        chance = random.Random(150)
        for turn in range(60):
            case = small_case(chance)
            self.told(case, table_of(case), True)
            self.told(case, rows_from(Reckoned(case).lowered({})), True)

    def test_all_noughts(self):
        chance = random.Random(151)
        for turn in range(20):
            case = small_case(chance)
            table = [(first, 0) for first, number in table_of(case)]
            self.told(case, table, True)
            self.assertEqual(low_of(case, table), min([charge for place, charge in case[1]]))

    def test_a_number_1_more_or_none(self):
        chance = random.Random(152)
        for turn in range(40):
            case = small_case(chance)
            table = table_of(case)
            for at, (first, number) in enumerate(table):
                if number is not None:
                    for more in (number + 1, number + GREAT, HUGE, None):
                        self.told(case, with_number(table, at, more), False)

    def test_a_number_less_at_the_root(self):
        # What stands at the root is asked of no other row.
        chance = random.Random(153)
        for turn in range(40):
            case = small_case(chance)
            table = table_of(case)
            for at, (first, number) in enumerate(table):
                if number and first[0] == case[0][0][0]:
                    for less in (number - 1, number // 2, 0):
                        self.told(case, with_number(table, at, less), True)

    def test_a_number_less_anywhere(self):
        # It is let by itself; the rows above it hold where what is due of them does not fall below them.
        chance = random.Random(154)
        seen = {True: 0, False: 0}
        for turn in range(40):
            case = small_case(chance)
            reckoned, table = Reckoned(case), table_of(case)
            for at, (first, number) in enumerate(table):
                if number:
                    less = with_number(table, at, chance.choice((number - 1, 0)))
                    answer = reckoned.hold(dict(less))
                    seen[answer] += 1
                    self.told(case, less, answer)
                    self.told(case, rows_from(reckoned.lowered(dict(less))), True)
        self.assertGreater(min(seen.values()), 30)

    def test_a_number_where_none_is_due(self):
        # Two sites and one more: nothing below b or d could begin another one.
        for number in (0, 1, 100, GREAT, HUGE):
            table = dict(table_of(CASE))
            self.assertIsNone(table["d", "d", 1])
            table["d", "d", 1] = number
            self.told(CASE, rows_from(table), Reckoned(CASE).hold(table))
        web = map_of(["a", "b"], [("a", "b", 3)])
        case = case_of(web, [("a", 4), ("b", 5)], [("a", 2), ("b", 1)], None)
        for number in (0, 1, 100, GREAT, HUGE):
            # At the root no other row asks for it.
            table = dict(table_of(case))
            self.assertIsNone(table["a", "b", 1])
            table["a", "b", 1] = number
            self.told(case, rows_from(table), True)
            table["a", "b", 0] += 1
            self.told(case, rows_from(table), False)

    def test_a_number_where_none_is_due_below_the_root(self):
        chance = random.Random(155)
        seen = {True: 0, False: 0}
        for turn in range(40):
            case = small_case(chance)
            reckoned, table = Reckoned(case), table_of(case)
            for at, (first, number) in enumerate(table):
                if number is None:
                    for instead in (0, 3, HUGE):
                        more = with_number(table, at, instead)
                        answer = reckoned.hold(dict(more))
                        seen[answer] += 1
                        self.told(case, more, answer)
        self.assertGreater(min(seen.values()), 10)

    def test_what_is_due_is_reckoned_by_the_tables_own_numbers(self):
        # Where c goes to d it pays less than it could: then what stands at a and goes by it may not stay as it was.
        table = dict(table_of(CASE))
        self.assertGreater(table["c", "d", 0], 0)
        table["c", "d", 0] -= 1
        self.told(CASE, rows_from(table), False)
        for first in (("a", "d", 0), ("a", "d", 1), ("a", "b", 1)):
            table[first] -= 1
        self.told(CASE, rows_from(table), True)
        for first in (("a", "d", 0), ("a", "d", 1), ("a", "b", 1)):
            table[first] += 1
            self.told(CASE, rows_from(table), False)
            table[first] -= 1

    def test_chance_tables(self):
        chance = random.Random(156)
        seen = {True: 0, False: 0}
        for turn in range(150):
            case = small_case(chance)
            reckoned = Reckoned(case)
            numbers = {}
            for first, number in table_of(case):
                numbers[first] = chance.choice((number, number, number, 0 if number is None else number // 2, 0))
            if chance.random() < 0.7:
                numbers = reckoned.lowered(numbers)
            if chance.random() < 0.3:
                first = chance.choice(list(numbers))
                numbers[first] = None if numbers[first] is None else numbers[first] + 1
            answer = reckoned.hold(numbers)
            seen[answer] += 1
            self.told(case, rows_from(numbers), answer)
        self.assertGreater(min(seen.values()), 20)

    def test_sixteen_places_with_six_sites_without_long_waiting(self):
        names = small_names(16)
        web = map_of(names, [("h", name, 3) for name in names if name != "h"])
        for limit in (None, 1, 4, 6):
            case = case_of(web, [(name, 4) for name in "aceghi"], [(name, 2) for name in names], limit)
            with within(20):
                table = table_of(case)
                self.told(case, table, True)
                for at in range(0, len(table), 7):
                    if table[at][1] is not None:
                        self.told(case, with_number(table, at, table[at][1] + 1), False)


class Forms(Told):
    def row_refused(self, case, at, row):
        """The table that is told does not hold with this row in the place of its own."""
        table = table_of(case)
        self.told(case, table[:at] + [row] + table[at + 1:], False)

    def all_rows(self):
        """Each row of two tables, with its case and where it stands."""
        return [(case, at, row) for case in (CASE, LIMITED) for at, row in enumerate(table_of(case))]

    def test_a_row_out_twice_or_turned_about(self):
        for case in (CASE, LIMITED):
            table = table_of(case)
            for at, (first, number) in enumerate(table):
                self.told(case, table[:at] + table[at + 1:], False)
                self.told(case, table[:at] + [table[at]] + table[at:], False)
                self.told(case, table + [table[at]], False)
                self.told(case, table[:at] + [(number, first)] + table[at + 1:], False)
                self.told(case, table[:at] + [(first[::-1], number)] + table[at + 1:], False)
                if at:
                    self.told(case, table[:at - 1] + [table[at], table[at - 1]] + table[at + 1:], False)
                    self.told(case, table[:at] + [table[at - 1]] + table[at + 1:], False)
            self.told(case, table[::-1], False)
            self.told(case, table + table, False)
            self.told(case, [], False)

    def test_rows_of_all_noughts_in_another_order(self):
        # All numbers are alike, so that nothing but the first parts tells the rows apart.
        table = [(first, 0) for first, number in table_of(CASE)]
        self.told(CASE, table, True)
        for at in range(1, len(table)):
            self.told(CASE, table[:at - 1] + [table[at], table[at - 1]] + table[at + 1:], False)

    def test_a_row_of_another_place_site_or_more(self):
        for case, at, ((place, site, more), number) in self.all_rows():
            for first in (
                ("q", site, more), ("", site, more), (place, "q", more), (place, "a", more), (place, "c", more),
                (place, site, 2), (place, site, -1), (place, site, 1 - more), (place, site, GREAT), (place.upper(), site, more),
                (place, site), (place, site, more, more), (site, place, -more - 1), (place, more, site), (more, place, site),
                [place, site, more], place + site, (place, site, str(more)), (place, site, None), (None, site, more),
                (place, None, more), (place, site, bool(more)), (place, site, (more,)), ((place, site), more),
                ((place,), site, more), (place, [site], more), {place: site}, None, place, more, (), b"a",
            ):
                self.row_refused(case, at, (first, number))
                self.row_refused(case, at, (first, 0))

    def test_a_list_in_the_place_of_a_tuple(self):
        for case in (CASE, LIMITED):
            table = table_of(case)
            self.told(case, tuple(table), False)
            for at, (first, number) in enumerate(table):
                self.told(case, table[:at] + [[first, number]] + table[at + 1:], False)
                self.told(case, table[:at] + [(list(first), number)] + table[at + 1:], False)

    def test_a_row_too_long_or_too_short(self):
        for case, at, (first, number) in self.all_rows():
            for row in ((first,), (first, number, number), (first, number, None), (), first, number, first + (number,)):
                self.row_refused(case, at, row)

    def test_a_number_that_is_none(self):
        for case, at, (first, number) in self.all_rows():
            for thing in (-1, -2, -GREAT, -HUGE, True, False, "", "0", "None", [], [0], (), (0,), {}, b"0"):
                self.row_refused(case, at, (first, thing))

    def test_rows_too_few_or_too_many_for_the_limit(self):
        for table, case in ((table_of(CASE), LIMITED), (table_of(LIMITED), CASE)):
            self.told(case, table, False)
        for limit in (2, 3, 11, GREAT):
            self.told(case_of(*CASE[:3], limit), table_of(CASE), True)

    def test_things_of_every_kind(self):
        things = odd_things() + ["", "q", "table", 1, GREAT, HUGE, dict(table_of(CASE)), [None] * 16, [()] * 16]
        for case in (CASE, LIMITED):
            table = table_of(case)
            for thing in things:
                self.told(case, thing, False)
                self.told(case, [thing] * len(table), False)
                for at in (0, 1, len(table) // 2, len(table) - 1):
                    first, number = table[at]
                    for row in (thing, (thing, number), (thing, thing), ((thing, first[1], first[2]), number),
                                ((first[0], thing, first[2]), number), ((thing,) * 3, number)):
                        self.told(case, table[:at] + [row] + table[at + 1:], False)
                    if type(thing) is not int and thing is not None:
                        self.told(case, with_number(table, at, thing), False)
                        self.told(case, table[:at] + [(first[:2] + (thing,), number)] + table[at + 1:], False)

    def test_right_ones_nested_in_something(self):
        table = table_of(CASE)
        for depth in (1, 2, 28):
            for wrap in (lambda inner: [inner], lambda inner: (inner,), lambda inner: {"a": inner}):
                self.told(CASE, nested(depth, wrap, table), False)
                for at in (0, 5, len(table) - 1):
                    first, number = table[at]
                    for row in (nested(depth, wrap, table[at]), (nested(depth, wrap, first), number),
                                (first, nested(depth, wrap, number))):
                        self.told(CASE, table[:at] + [row] + table[at + 1:], False)


class Low(unittest.TestCase):
    def test_by_hand(self):
        web = map_of(["a", "b"], [("a", "b", 3)])
        case = case_of(web, [("a", 4), ("b", 5)], [("a", 2), ("b", 1)], None)
        table = dict(table_of(case))
        for changes, least in (
            ({}, 7), ({("a", "a", 0): 0}, 4), ({("a", "a", 0): 2}, 6), ({("a", "b", 0): 0}, 5), ({("a", "b", 1): 1}, 6),
            ({("a", "a", 1): 0}, 4), ({("a", "b", 1): HUGE}, 7), ({("a", "b", 0): 3, ("a", "a", 0): 3}, 7),
        ):
            rows = rows_from({**table, **changes})
            self.assertIs(holds(case, rows), True)
            self.assertEqual(low_of(case, rows), least, changes)
            self.assertIs(type(low_of(case, rows)), int)

    def test_of_the_table_that_is_told(self):
        chance = random.Random(157)
        for turn in range(60):
            case = small_case(chance)
            self.assertEqual(low_of(case, table_of(case)), plain_best(case)[0])

    def test_of_other_tables_that_hold(self):
        chance = random.Random(158)
        lower = 0
        for turn in range(100):
            case = small_case(chance)
            reckoned = Reckoned(case)
            numbers = {}
            for first, number in table_of(case):
                some = 0 if number is None else chance.choice((number // 2, max(number - 1, 0)))
                numbers[first] = some if chance.random() < 0.2 else number
            numbers = reckoned.lowered(numbers)
            rows = rows_from(numbers)
            self.assertIs(holds(case, rows), True)
            told, best = low_of(case, rows), plain_best(case)[0]
            self.assertEqual((type(told), told), (int, reckoned.low(numbers)))
            self.assertLessEqual(told, best)
            lower += told < best
        self.assertGreater(lower, 10)


class HandedInAndTold(unittest.TestCase):
    def test_what_is_handed_in_stays(self):
        table = table_of(CASE)
        things = [table, list(reversed(table)), [[list(first), number] for first, number in table], [[]], {"a": []}]
        before = copy.deepcopy((CASE, things))
        for thing in things:
            holds(CASE, thing)
        low_of(CASE, table)
        self.assertEqual((CASE, things), before)

    def test_what_was_handed_in_and_then_changed_changes_no_later_answer(self):
        table = table_of(CASE)
        right, least = list(table), low_of(CASE, table)
        self.assertIs(holds(CASE, table), True)
        for at in range(len(table)):
            table[at] = (table[at][0], 0)
        self.assertIs(holds(CASE, right), True)
        self.assertEqual(low_of(CASE, right), least)
        self.assertEqual(low_of(CASE, table), 2)
        self.assertEqual(table_of(CASE), right)

    def test_one_case_asked_between_questions_of_another(self):
        for turn in range(2):
            for case in (CASE, LIMITED):
                self.assertIs(holds(case, table_of(case)), True)
                self.assertEqual(low_of(case, table_of(case)), plain_best(case)[0])


if __name__ == "__main__":
    unittest.main()
