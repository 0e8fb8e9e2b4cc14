"""Points [9] and [11], and "Stage 3" of the interface: patterns of files, their shape, and the steps from them."""

import itertools
import random
import unittest

from helper import (TEXTS_OF_NUMBERS, any_values, asking_rule, beside_rule, chance_rule, contents_to_try,
                    deeds_by_hand, file_with, files_by_hand, moving_rule, pattern_by_hand, rule_that, sample_rules,
                    simple_rule, wide_rule)
from stillmine.files import File, standing
from stillmine.patterns import is_pattern, pattern_of, steps_from
from stillmine.rules import Rule

MARKS = ("none", "own", "free")
NEW_FILE = ((0, 0, 0, 0), "none", False)


def shapes(size):
    """All patterns of rules with so many registers, by their shape."""
    told = []
    for numbers in itertools.product(range(size + 4), repeat=size + 3):
        firsts = list(dict.fromkeys(number for number in numbers if number))
        if firsts == list(range(1, len(firsts) + 1)):
            for mark, amid in itertools.product(MARKS, (False, True)):
                if (mark == "own" or numbers[-1] == 0) and (mark != "free" or amid):
                    told.append((numbers, mark, amid))
    return told


class PatternOf(unittest.TestCase):
    def test_behind_deeds(self):
        file = File(asking_rule())
        deeds = [
            (lambda: file.edit("a"), ((1, 0, 0, 1), "own", False)),
            (lambda: file.edit(None), ((0, 0, 0, 0), "none", False)),
            (lambda: file.upgrade("a"), ((1, 1, 1, 0), "none", False)),
            (lambda: file.edit(None), ((0, 1, 1, 0), "own", False)),
            (lambda: file.edit("b"), ((1, 2, 2, 1), "own", False)),
            (lambda: file.upgrade("c", answer="keep", stop=0), ((1, 2, 2, 1), "own", True)),
            (lambda: file.upgrade("c", answer="keep"), ((1, 2, 2, 1), "own", False)),
            (lambda: file.upgrade("d", answer="take", stop=1), ((1, 2, 2, 0), "free", True)),
            (lambda: file.upgrade("d"), ((1, 1, 1, 0), "none", False)),
            (lambda: file.upgrade(None), ((0, 0, 0, 0), "none", False)),
        ]
        for deed, pattern in deeds:
            deed()
            self.assertEqual(pattern_of(file), pattern)

    def test_behind_renamings(self):
        file = File(moving_rule())
        file.upgrade("a")
        self.assertEqual(pattern_of(file), ((1, 0, 1, 1, 0), "none", False))
        file.edit("b")
        file.renamed("c", answer="keep", stop=0)
        self.assertEqual(pattern_of(file), ((0, 1, 2, 2, 1), "own", True))
        file.renamed("b", answer="take", stop=2)
        self.assertEqual(pattern_of(file), ((1, 0, 2, 2, 0), "free", True))
        file.upgrade("d", answer="keep", stop=1)
        self.assertEqual(pattern_of(file), ((1, 1, 2, 2, 1), "own", True))

    def test_sequence_of_the_numbers(self):
        rule = Rule(["was", "beside", "old"], [((), ())])
        file = standing(rule, ["d", "c", None, "c"], last="b", mark="own", mine="a")
        self.assertEqual(pattern_of(file), ((1, 2, 0, 2, 3, 4), "own", False))
        file = standing(rule, [None, "c", "", "d"], last="", mark="own", mine="d", amid=True)
        self.assertEqual(pattern_of(file), ((0, 1, 2, 3, 2, 3), "own", True))

    def test_mine_only_with_the_mark_own(self):
        for mark, amid in (("none", False), ("none", True), ("free", True), ("free", False)):
            file = standing(simple_rule(), ["a"], last="b", mark=mark, mine="c", amid=amid)
            self.assertEqual(pattern_of(file), ((1, 2, 0), mark, amid))
        file = standing(simple_rule(), [None], last="b", mark="own", mine=None)
        self.assertEqual(pattern_of(file), ((0, 1, 0), "own", False))

    def test_kinds_of_values(self):
        file = File(asking_rule())
        file.edit("a")
        numbers, mark, amid = pattern_of(file=file)
        self.assertEqual([type(each) for each in (pattern_of(file), numbers, mark, amid)], [tuple, tuple, str, bool])
        self.assertEqual({type(number) for number in numbers}, {int})
        self.assertEqual(pattern_by_hand(file), ((1, 0, 0, 1), "own", False))

    def test_files_with_other_contents(self):
        chance = random.Random(9)
        for rule in sample_rules() + [chance_rule(chance, registers) for registers in (["x"], ["elder", "y"])]:
            for pattern, file in files_by_hand(File(rule), True).items():
                self.assertEqual(pattern_of(file), pattern)
                self.assertEqual(pattern_of(file_with(rule, pattern)), pattern)
                self.assertIs(is_pattern(rule, pattern), True)


class IsPattern(unittest.TestCase):
    def assert_worth(self, rule, value, worth):
        with self.subTest(value=value):
            self.assertIs(is_pattern(rule, value), worth)

    def test_all_shapes(self):
        for rule in (simple_rule(), asking_rule(), rule_that((), registers=["elder", "was"])):
            size = len(rule.registers)
            right = set(shapes(size))
            self.assertEqual(len(right), (45, 149, 562)[size])
            for numbers in itertools.product(range(-1, size + 4), repeat=size + 3):
                for mark, amid in itertools.product(MARKS, (False, True)):
                    value = (numbers, mark, amid)
                    self.assertIs(is_pattern(rule, value), value in right)

    def test_shapes_that_no_file_has(self):
        for value in (((0, 0, 0, 1), "own", False), ((1, 2, 3, 4), "own", True), ((1, 1, 1, 1), "own", False),
                      ((0, 1, 2, 0), "free", True), ((1, 0, 0, 0), "none", True)):
            self.assert_worth(asking_rule(), value, True)

    def test_sequence_of_numbers(self):
        for numbers in ((2, 1, 1, 0), (1, 3, 2, 0), (2, 0, 0, 0), (0, 0, 2, 0), (1, 1, 3, 0), (-1, 0, 0, 0),
                        (0, -1, 1, 0), (1, 2, 4, 0), (10 ** 59, 0, 0, 0)):
            self.assert_worth(asking_rule(), (numbers, "none", False), False)
        for numbers in ((1, 2, 3, 5), (0, 0, 0, 2), (1, 1, 2, -1)):
            self.assert_worth(asking_rule(), (numbers, "own", False), False)

    def test_how_many_numbers(self):
        for size in range(8):
            for rule in (simple_rule(), asking_rule(), moving_rule(), wide_rule()):
                self.assert_worth(rule, ((0,) * size, "none", False), size == len(rule.registers) + 3)

    def test_mine_without_own(self):
        for mark, amid in (("none", False), ("none", True), ("free", True)):
            self.assert_worth(asking_rule(), ((1, 0, 0, 1), mark, amid), False)
            self.assert_worth(asking_rule(), ((1, 0, 0, 0), mark, amid), True)

    def test_free_only_amid(self):
        self.assert_worth(asking_rule(), ((1, 2, 2, 0), "free", True), True)
        self.assert_worth(asking_rule(), ((1, 2, 2, 0), "free", False), False)

    def test_each_part_of_another_kind(self):
        for rule, value in ((asking_rule(), ((1, 2, 2, 1), "own", True)), (asking_rule(), ((0, 0, 0, 0), "free", True)),
                            (simple_rule(), ((1, 0, 0), "none", False))):
            self.assert_worth(rule, value, True)
            numbers, mark, amid = value
            for other in [*any_values(), 1.0, "None", "Own", "own ", "nothing"]:
                if not isinstance(other, tuple):
                    self.assert_worth(rule, other, False)
                self.assert_worth(rule, (other, mark, amid), False)
                if not isinstance(other, str) or other not in MARKS:
                    self.assert_worth(rule, (numbers, other, amid), False)
                if not isinstance(other, bool):
                    self.assert_worth(rule, (numbers, mark, other), False)

    def test_each_number_of_another_kind(self):
        for position in range(4):
            for other in [*any_values(), 1.0]:
                if isinstance(other, bool) or not isinstance(other, int):
                    numbers = tuple(other if at == position else 0 for at in range(4))
                    self.assert_worth(asking_rule(), (numbers, "own", False), False)

    def test_lists_for_tuples(self):
        numbers, mark, amid = ((1, 2, 2, 1), "own", False)
        for value in ([numbers, mark, amid], (list(numbers), mark, amid), [list(numbers), mark, amid],
                      (numbers, [mark], amid), (numbers, mark, [amid]), {numbers: mark}):
            self.assert_worth(asking_rule(), value, False)

    def test_other_lengths(self):
        numbers, mark, amid = ((1, 2, 2, 1), "own", False)
        for value in ((), (numbers,), (numbers, mark), (numbers, mark, amid, amid), (numbers, mark, amid, None),
                      (*numbers, mark, amid), ((numbers, mark, amid),), (mark, numbers, amid), (numbers, amid, mark)):
            self.assert_worth(asking_rule(), value, False)

    def test_a_bool_for_any_value(self):
        for rule in (simple_rule(), asking_rule(), wide_rule()):
            for value in any_values():
                self.assertIs(is_pattern(rule=rule, value=value), False)


class StepsFrom(unittest.TestCase):
    def test_all_steps_of_a_new_file(self):
        self.assertEqual(steps_from(asking_rule(), NEW_FILE), [
            (("edit", 1), (), ((1, 0, 0, 1), "own", False)),
            (("upgrade", 0, None, None), (), NEW_FILE),
            (("upgrade", 1, None, None), (), ((1, 1, 1, 0), "none", False)),
        ])
        self.assertEqual(steps_from(asking_rule(), NEW_FILE, stops=True), [
            (("edit", 1), (), ((1, 0, 0, 1), "own", False)),
            (("upgrade", 0, None, 0), (), ((0, 0, 0, 0), "none", True)),
            (("upgrade", 0, None, 1), (), ((0, 0, 0, 0), "none", True)),
            (("upgrade", 0, None, None), (), NEW_FILE),
            (("upgrade", 1, None, 0), (), ((0, 0, 0, 0), "none", True)),
            (("upgrade", 1, None, 1), (), ((1, 0, 0, 0), "none", True)),
            (("upgrade", 1, None, None), (), ((1, 1, 1, 0), "none", False)),
        ])

    def test_all_steps_with_a_change(self):
        self.assertEqual(steps_from(asking_rule(), ((1, 2, 2, 1), "own", False)), [
            (("edit", 0), (), ((0, 1, 1, 0), "own", False)),
            (("edit", 2), (), ((1, 1, 1, 0), "none", False)),
            (("edit", 3), (), ((1, 2, 2, 1), "own", False)),
            (("upgrade", 0, "take", None), (), NEW_FILE),
            (("upgrade", 0, "keep", None), (), ((1, 0, 0, 1), "own", False)),
            (("upgrade", 1, None, None), (), ((1, 1, 1, 0), "none", False)),
            (("upgrade", 2, None, None), (), ((1, 2, 2, 1), "own", False)),
            (("upgrade", 3, "take", None), (), ((1, 1, 1, 0), "none", False)),
            (("upgrade", 3, "keep", None), (), ((1, 2, 2, 1), "own", False)),
        ])

    def test_all_steps_amid_an_upgrade(self):
        self.assertEqual(steps_from(asking_rule(), ((1, 2, 2, 0), "none", True)), [
            (("upgrade", 0, "take", None), ("needless",), NEW_FILE),
            (("upgrade", 0, "keep", None), ("needless",), ((1, 0, 0, 1), "own", False)),
            (("upgrade", 1, None, None), (), ((1, 1, 1, 0), "none", False)),
            (("upgrade", 2, None, None), ("stale",), ((1, 2, 2, 0), "none", False)),
            (("upgrade", 3, "take", None), ("needless",), ((1, 1, 1, 0), "none", False)),
            (("upgrade", 3, "keep", None), ("needless",), ((1, 2, 2, 1), "own", False)),
        ])

    def test_steps_of_renamings(self):
        rule = rule_that((("here", "new"),), keep=(), registers=["elder"])
        steps = [deed for deed, _, _ in steps_from(rule, ((0, 0, 0, 0), "none", True), stops=True)]
        ways = [("take", 0), ("take", None), ("keep", None)]
        self.assertEqual(steps, [(word, content, *way) for word in ("upgrade", "renamed")
                                 for content in (0, 1) for way in ways])
        steps = steps_from(rule, ((1, 0, 0, 1), "own", False))
        self.assertEqual(steps[-2:], [
            (("renamed", 2, "take", None), ("left",), ((1, 2, 1, 0), "none", False)),
            (("renamed", 2, "keep", None), ("stale",), ((0, 1, 2, 1), "own", False)),
        ])

    def test_troubles_in_their_sequence(self):
        rule = rule_that((("here", "nothing"),), keep=(("here", "nothing"),), registers=["elder"])
        steps = {deed: troubles for deed, troubles, _ in steps_from(rule, ((1, 2, 3, 4), "own", False))}
        self.assertEqual(steps[("upgrade", 5, "keep", None)], ("needless", "lost", "stale", "left"))
        self.assertEqual(steps[("upgrade", 5, "take", None)], ("needless", "stale", "left"))

    def assert_steps(self, rule, pattern, stops):
        """That the steps from a pattern are just those of a file that stands so, with numbers for its texts."""
        contents = list(TEXTS_OF_NUMBERS[:max(pattern[0]) + 2])
        told = []
        for deed, troubles, behind in deeds_by_hand(file_with(rule, pattern), contents, stops):
            deed = (deed[0], contents.index(deed[1]), *deed[2:])
            told.append((deed, tuple(troubles), pattern_by_hand(behind)))
        steps = steps_from(rule, pattern, stops=stops)
        self.assertEqual(steps, told)
        for deed, troubles, behind in steps:
            self.assertEqual((type(deed), type(troubles), is_pattern(rule, behind)), (tuple, tuple, True))

    def test_as_files_that_stand_so(self):
        chance = random.Random(10)
        rules = sample_rules() + [chance_rule(chance, registers) for registers in
                                  ([], ["x"], ["elder"], ["beside"], ["x", "y"], ["elder", "x"], ["beside", "elder"])]
        for rule in rules:
            patterns = shapes(len(rule.registers))
            for pattern in patterns if len(patterns) < 100 else chance.sample(patterns, 60):
                for stops in (False, True):
                    self.assert_steps(rule, pattern, stops)

    def test_as_files_with_three_registers(self):
        chance = random.Random(11)
        for registers in (["x", "y", "z"], ["elder", "x", "beside"], ["x", "elder", "y"]):
            rule = chance_rule(chance, registers)
            for pattern in chance.sample(list(files_by_hand(File(rule), True)), 20):
                self.assert_steps(rule, pattern, True)
        for pattern in (((1, 2, 3, 4, 5, 6), "own", False), ((1, 2, 3, 4, 5, 6), "own", True),
                        ((0, 0, 0, 0, 0, 1), "own", False), ((1, 2, 3, 4, 5, 0), "free", True)):
            self.assert_steps(wide_rule(), pattern, True)

    def test_edits_that_change_nothing_are_left_out(self):
        for pattern, edits in ((NEW_FILE, [1]), (((1, 1, 1, 0), "none", False), [0, 2]),
                               (((0, 1, 1, 0), "own", False), [1, 2]), (((1, 2, 2, 1), "own", True), []),
                               (((0, 1, 2, 0), "free", True), [])):
            steps = steps_from(asking_rule(), pattern)
            self.assertEqual([deed[1] for deed, _, _ in steps if deed[0] == "edit"], edits)

    def test_stops(self):
        for steps, stops in (((), [None]), ((("here", "new"),) * 4, [0, 1, 2, 3, None])):
            told = steps_from(rule_that(steps), ((0, 0, 0), "none", True), stops=True)
            self.assertEqual([deed[3] for deed, _, _ in told], stops * 2)
            told = steps_from(rule_that(steps), ((0, 0, 0), "none", True), stops=False)
            self.assertEqual([deed[3] for deed, _, _ in told], [None] * 2)

    def test_lists_that_are_told_are_new(self):
        rule = asking_rule()
        pattern = ((1, 2, 2, 1), "own", False)
        before = steps_from(rule, pattern)
        steps_from(rule, pattern).clear()
        steps_from(rule, pattern)[0] = None
        self.assertEqual(steps_from(rule=rule, pattern=pattern, stops=False), before)
        self.assertIsInstance(before, list)
        self.assertEqual((pattern, rule), (((1, 2, 2, 1), "own", False), asking_rule()))

    def test_as_files_that_paths_lead_to(self):
        for rule in (asking_rule(), beside_rule(), moving_rule()):
            for pattern, file in files_by_hand(File(rule), True).items():
                told = deeds_by_hand(file, contents_to_try(file), True)
                self.assertEqual({(tuple(troubles), pattern_by_hand(behind)) for _, troubles, behind in told},
                                 {step[1:] for step in steps_from(rule, pattern, stops=True)})


if __name__ == "__main__":
    unittest.main()
