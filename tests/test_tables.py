"""Point [11] and "Stage 4" of the interface: tables of rules, and what is closed."""

import random
import time
import unittest

from helper import (any_values, asking_rule, chance_rule, files_by_hand, moving_rule, rule_that, sample_rules,
                    simple_rule, wide_rule)
from stillmine.files import File
from stillmine.patterns import is_pattern, steps_from
from stillmine.rules import Rule
from stillmine.tables import is_closed, table

NEW_FILE = ((0, 0, 0, 0), "none", False)


def chance_rules():
    """Rules with all kinds of registers, small enough to be walked by hand."""
    chance = random.Random(12)
    kinds = ([], ["x"], ["beside"], ["elder"], ["x", "y"], ["beside", "x"], ["elder", "x"], ["elder", "beside"])
    return [chance_rule(chance, registers) for registers in kinds for _ in range(2)]


def closure_of(rule, patterns, stops):
    """Some patterns and all that steps_from leads to from them."""
    found = list(patterns)
    for pattern in found:
        for _, _, behind in steps_from(rule, pattern, stops=stops):
            if behind not in found:
                found.append(behind)
    return found


class Table(unittest.TestCase):
    def test_of_the_example(self):
        self.assertEqual(table(asking_rule()), [
            ((0, 0, 0, 0), "none", False),
            ((0, 1, 1, 0), "own", False),
            ((1, 0, 0, 1), "own", False),
            ((1, 1, 1, 0), "none", False),
            ((1, 2, 2, 1), "own", False),
        ])

    def test_of_a_rule_without_registers(self):
        without_stops = [((0, 0, 0), "none", False), ((0, 1, 0), "own", False), ((1, 0, 1), "own", False),
                         ((1, 1, 0), "none", False), ((1, 2, 1), "own", False)]
        self.assertEqual(table(simple_rule()), without_stops)
        amid = [((0, 0, 0), "none", True), ((0, 1, 0), "own", True), ((1, 0, 1), "own", True),
                ((1, 1, 0), "none", True), ((1, 2, 1), "own", True)]
        self.assertEqual(table(simple_rule(), stops=True), sorted(without_stops + amid))

    def test_as_a_walk_by_hand(self):
        for rule in sample_rules() + chance_rules():
            for stops in (False, True):
                with self.subTest(registers=rule.registers, lines=rule.lines, stops=stops):
                    self.assertEqual(table(rule, stops=stops), sorted(files_by_hand(File(rule), stops)))

    def test_as_a_walk_by_hand_with_three_registers(self):
        chance = random.Random(13)
        for registers in (["x", "y", "z"], ["elder", "x", "beside"]):
            rule = chance_rule(chance, registers)
            self.assertEqual(table(rule), sorted(files_by_hand(File(rule), False)))

    def test_ascending_and_different(self):
        for rule in sample_rules() + [wide_rule()]:
            for stops in (False, True):
                told = table(rule, stops=stops)
                self.assertIsInstance(told, list)
                self.assertTrue(all(before < after for before, after in zip(told, told[1:])))
                self.assertTrue(all(is_pattern(rule, pattern) for pattern in told))

    def test_words_as_texts(self):
        told = [pattern for pattern in table(asking_rule(), stops=True) if pattern[0] == (1, 2, 2, 0)]
        self.assertEqual(told, [((1, 2, 2, 0), mark, amid)
                                for mark, amid in (("free", True), ("none", False), ("none", True))])

    def test_without_stops_nothing_is_amid(self):
        for rule in sample_rules() + chance_rules():
            told = table(rule)
            self.assertFalse(any(amid or mark == "free" for _, mark, amid in told))
            self.assertLessEqual(set(told), set(table(rule, stops=True)))

    def test_a_rule_without_steps_has_no_stops(self):
        rule = rule_that((), keep=())
        self.assertEqual(table(rule, stops=True), table(rule))

    def test_lists_that_are_told_are_new(self):
        for stops in (False, True):
            before = table(asking_rule(), stops=stops)
            rule = asking_rule()
            table(rule, stops=stops).clear()
            table(rule, stops=stops)[0] = None
            self.assertEqual(table(rule=rule, stops=stops), before)
        self.assertEqual(table(rule), table(rule, stops=False))

    def test_large_tables_end_quickly(self):
        start = time.monotonic()
        told = table(wide_rule(), stops=True)
        self.assertGreater(len(told), 1000)
        self.assertIs(is_closed(wide_rule(), told, stops=True), True)
        self.assertLess(time.monotonic() - start, 20)


class IsClosed(unittest.TestCase):
    def assert_worth(self, worth, rule, value, **named):
        with self.subTest(value=value, **named):
            self.assertIs(is_closed(rule, value, **named), worth)

    def test_the_table(self):
        for rule in sample_rules() + chance_rules():
            for stops in (False, True):
                told = table(rule, stops=stops)
                self.assert_worth(True, rule, told, stops=stops)
                self.assert_worth(True, rule, told[::-1], stops=stops)

    def test_without_one_of_its_patterns(self):
        for rule in sample_rules() + chance_rules():
            told = table(rule)
            for position in range(len(told)):
                self.assert_worth(False, rule, told[:position] + told[position + 1:])

    def test_without_one_of_its_patterns_with_stops(self):
        for rule in sample_rules():
            told = table(rule, stops=True)
            for position in range(len(told)):
                self.assert_worth(False, rule, told[:position] + told[position + 1:], stops=True)

    def test_one_twice(self):
        for stops in (False, True):
            told = table(asking_rule(), stops=stops)
            for pattern in told:
                self.assert_worth(False, asking_rule(), told + [pattern], stops=stops)

    def test_another_shape_or_value_among_them(self):
        told = table(asking_rule())
        wrong = [((2, 1, 1, 0), "none", False), ((1, 1, 1, 1), "none", False), ((1, 1, 1, 0), "free", False),
                 ((1, 1, 0), "none", False), [(1, 2, 2, 0), "none", False], ((True, 1, 1, 0), "none", False),
                 ((1, 2, 2, 0), "none", 0), ((1, 2, 2, 0), "some", False), ([1, 2, 2, 0], "none", False)]
        for value in wrong + any_values():
            for position in (0, len(told)):
                self.assert_worth(False, asking_rule(), told[:position] + [value] + told[position:])
            self.assert_worth(False, asking_rule(), [value] + told[1:])

    def test_a_bool_is_no_number(self):
        told = table(simple_rule())
        self.assert_worth(True, simple_rule(), told)
        self.assert_worth(False, simple_rule(), [((False, 0, 0), "none", False)] + told[1:])
        self.assert_worth(False, simple_rule(), [((0, 0, 0), "none", 0)] + told[1:])

    def test_only_lists(self):
        told = table(asking_rule())
        for value in (tuple(told), {pattern: True for pattern in told}, told[0], [told], (told,), [], ()):
            self.assert_worth(False, asking_rule(), value)
        for value in any_values():
            for stops in (False, True):
                self.assert_worth(False, asking_rule(), value, stops=stops)

    def test_the_table_of_another_rule(self):
        self.assert_worth(False, asking_rule(), table(simple_rule()))
        self.assert_worth(False, simple_rule(), table(asking_rule()))
        forgets = Rule(["was"], [((), (("here", "new"),))])
        self.assert_worth(False, forgets, table(asking_rule()))

    def test_stops(self):
        for rule in (simple_rule(), asking_rule(), moving_rule()):
            self.assert_worth(False, rule, table(rule), stops=True)
            self.assert_worth(True, rule, table(rule), stops=False)
            self.assert_worth(True, rule, table(rule, stops=True), stops=False)

    def test_with_patterns_that_no_file_has(self):
        more = ((1, 2, 3, 4), "own", True)
        for rule in (asking_rule(), Rule(["was"], [((), ())])):
            for stops in (False, True):
                told = table(rule, stops=stops)
                self.assertNotIn(more, told)
                larger = closure_of(rule, told + [more], stops)
                self.assert_worth(True, rule, larger, stops=stops)
                for pattern in larger:
                    left = [each for each in larger if each != pattern]
                    leads_out = pattern == NEW_FILE or any(
                        behind == pattern for each in left for _, _, behind in steps_from(rule, each, stops=stops))
                    self.assert_worth(not leads_out, rule, left, stops=stops)

    def test_the_pattern_of_a_new_file_is_asked_for(self):
        # What was here stays in the note for ever, so no step leads back to a new file.
        rule = Rule(["was"], [((("here", "nothing", False),), (("was", "here"),)), ((), ())])
        left = closure_of(rule, [((1, 1, 1, 0), "none", False)], False)
        self.assertNotIn(NEW_FILE, left)
        self.assert_worth(False, rule, left)
        self.assert_worth(False, rule, left + [NEW_FILE])
        self.assert_worth(True, rule, closure_of(rule, left + [NEW_FILE], False))

    def test_nothing_is_changed(self):
        told = table(asking_rule())
        is_closed(rule=asking_rule(), value=told, stops=True)
        self.assertEqual(told, table(asking_rule()))


if __name__ == "__main__":
    unittest.main()
