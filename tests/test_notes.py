"""Point [14] and "Stage 8" of the interface: rules without some notes, and which notes are enough."""

import itertools
import random
import time
import unittest

from helper import (ARRIVED, ASK, SAME, UNTOUCHED, any_values, asking_rule, beside_rule, caught, chance_rule,
                    moving_rule, picture, rule_of, rule_that, sample_rules, simple_rule, wide_rule)
from stillmine.alike import alike
from stillmine.errors import BadRegisters
from stillmine.files import File
from stillmine.notes import enough, without
from stillmine.rules import Rule

NEW = (("here", "new"),)


def parts(names):
    """All lists of some names in their sequence, smaller ones first."""
    return [list(part) for size in range(len(names) + 1) for part in itertools.combinations(names, size)]


def emptied(rule, names):
    """The rule without some notes, by hand."""
    lines = []
    for tests, *lists in rule.lines:
        told = [tests]
        for steps in lists:
            told.append(tuple((target, source if target not in names else "nothing") for target, source in steps))
        lines.append(tuple(told))
    return Rule(rule.registers, lines)


def enough_by_hand(rule):
    """The least sets of notes that are enough, by all subsets."""
    good = [part for part in parts(rule.notes)
            if alike(rule, emptied(rule, [name for name in rule.notes if name not in part]))]
    least = [part for part in good if not any(set(other) < set(part) for other in good)]
    return sorted(least, key=lambda part: [rule.notes.index(name) for name in part])


def two_that_do_the_same():
    """Either of two notes tells whether here was changed."""
    return Rule(["x", "y"], [
        ((("here", "nothing", False), ("here", "x", False), ("here", "y", False)), (("x", "new"), ("y", "new"))),
        ((), NEW + (("x", "new"), ("y", "new"))),
    ])


def one_that_matters_beside_another():
    """The second note has what the first one had before, so that it is empty without it."""
    return Rule(["x", "y"], [((), (("here", "y"), ("y", "x"), ("x", "new")))])


class Without(unittest.TestCase):
    def test_each_note_and_several(self):
        def rule_with(x_first, y_first, x_last, y_second, x_third, y_third):
            """The same rule with other sources of steps into the two notes."""
            return Rule(["x", "beside", "y"], [
                ((("x", "nothing", True), ("y", "here", False)),
                 (("x", x_first), ("y", y_first), ("here", "y"), ("x", x_last))),
                ((("beside", "new", True),), (("y", y_second),), (("x", x_third), ("beside", "x"), ("y", y_third))),
                ((), (), (("y", "nothing"), ("here", "x"))),
            ])

        rule = rule_with("new", "x", "x", "here", "here", "beside")
        self.assertEqual(without(rule, ["x"]), rule_with("nothing", "x", "nothing", "here", "nothing", "beside"))
        self.assertEqual(without(rule, ["y"]), rule_with("new", "nothing", "x", "nothing", "here", "nothing"))
        for names in (["x", "y"], ["y", "x"]):
            self.assertEqual(without(rule, names), rule_with(*["nothing"] * 6))
            self.assertEqual(without(rule, names), without(without(rule, ["x"]), ["y"]))

    def test_chance_rules(self):
        chance = random.Random(22)
        for registers in (["x"], ["x", "y"], ["beside", "x"], ["z", "elder", "y"], ["x", "y", "z"], []):
            for rule in [chance_rule(chance, registers) for _ in range(5)] + sample_rules():
                for names in parts(rule.notes):
                    told = without(rule, names)
                    self.assertIsInstance(told, Rule)
                    self.assertEqual((told.registers, told.lines), (rule.registers, emptied(rule, names).lines))

    def test_without_none(self):
        for rule in sample_rules():
            self.assertEqual(without(rule, []), rule)

    def test_the_note_stays_empty(self):
        file = File(without(asking_rule(), ["was"]))
        for content in ("a", None, "b", "b"):
            file.upgrade(content, answer="take")
            self.assertIsNone(file["was"])
            self.assertEqual(picture(file)[0][1:], [None])

    def test_nothing_is_changed(self):
        rule, names = two_that_do_the_same(), ["y", "x"]
        without(names=names, rule=rule)
        self.assertEqual((rule, names), (two_that_do_the_same(), ["y", "x"]))

    def assert_bad(self, rule, value):
        error = caught(without, rule, value)
        self.assertIsInstance(error, BadRegisters)
        self.assertIs(error.value, value)

    def test_values_of_other_kinds(self):
        for value in any_values():
            for rule in (asking_rule(), simple_rule(), moving_rule(), rule_that((), registers=["a"])):
                if value == [] or isinstance(value, list) and value[:1] == value and value[0] in rule.notes:
                    self.assertEqual(without(rule, value), emptied(rule, value))
                else:
                    self.assert_bad(rule, value)

    def test_lists_that_are_no_notes(self):
        rule = rule_that((), registers=["was", "beside", "x"])
        for value in any_values():
            self.assert_bad(rule, [value] if value != "was" else ["was", "was"])
            self.assert_bad(rule, ["was", value])
            self.assert_bad(rule, [value, "x", value])
        for value in (("was",), ("was", "x"), (), "was", {"was": "x"}, ["beside"], ["was", "beside"], ["here"], ["new"],
                      ["elder"], ["nothing"], ["y"], ["was", "was"], ["x", "was", "x"], ["was", "x", "y"], [["was"]],
                      ["Was"], ["was "], ["x", None]):
            self.assert_bad(rule, value)
        for value in (["was"], ["x"], ["was", "x"], ["x", "was"], []):
            self.assertIsNone(caught(without, rule, value))


class Enough(unittest.TestCase):
    def test_rules_without_notes(self):
        for rule in (simple_rule(), rule_that((), keep=()), rule_that(NEW, registers=["beside", "elder"])):
            self.assertEqual(enough(rule), [[]])

    def test_notes_that_are_not_needed(self):
        self.assertEqual(enough(rule_that(NEW + (("x", "new"), ("y", "x")), registers=["x", "y"])), [[]])
        self.assertEqual(enough(Rule(["was"], [((("was", "nothing", True),), NEW), ((), NEW)])), [[]])

    def test_samples(self):
        self.assertEqual(enough(asking_rule()), [["was"]])
        self.assertEqual(enough(moving_rule()), [["was"]])
        self.assertEqual(enough(beside_rule()), [["was"]])

    def test_two_that_do_the_same(self):
        self.assertEqual(enough_by_hand(two_that_do_the_same()), enough(two_that_do_the_same()))

    def test_one_of_two(self):
        either = Rule(["x", "y"], [
            ((("x", "nothing", False),), (("here", "nothing"),)),
            ((("y", "nothing", False),), (("here", "nothing"),)),
            ((), NEW + (("x", "new"), ("y", "new"))),
        ])
        self.assertEqual(enough(either), [["x"], ["y"]])
        lines = list(either.lines)
        self.assertEqual(enough(Rule(["y", "x"], lines)), [["y"], ["x"]])
        self.assertEqual(enough(Rule(["y", "beside", "x"], lines)), [["y"], ["x"]])
        self.assertEqual(enough(Rule(["z", "y", "x"], lines)), [["y"], ["x"]])

    def test_one_that_matters_only_beside_another(self):
        rule = one_that_matters_beside_another()
        self.assertEqual(enough(rule), [["x", "y"]])
        self.assertEqual(enough(Rule(["y", "x"], rule.lines)), [["y", "x"]])
        self.assertIs(alike(without(rule, ["x"]), without(rule, ["x", "y"])), True)

    def test_a_larger_set_that_is_not_enough(self):
        # Without both notes, or with both of them, nothing is known; with one alone they differ.
        rule = Rule(["x", "y"], [
            ((("x", "y", False),), (("here", "nothing"),)),
            ((), NEW + (("x", "new"), ("y", "new"))),
        ])
        self.assertEqual(enough(rule), [[]])
        for name in ("x", "y"):
            self.assertIs(alike(rule, without(rule, [name])), False)
        self.assertIs(alike(rule, without(rule, ["x", "y"])), True)

    def test_three_notes(self):
        pair = Rule(["x", "y", "z"], [
            ((("x", "y", False),), (("here", "nothing"),)),
            ((("z", "new", True), ("new", "nothing", False)), ()),
            ((), NEW + (("x", "new"), ("y", "new"), ("z", "new"))),
        ])
        self.assertEqual(enough(pair), [["z"]])
        self.assertEqual(enough(pair), enough_by_hand(pair))

    def test_one_note_or_two_others(self):
        rows = ("y!nothing:here<nothing", "x!nothing z!nothing:here<nothing", ":here<new x<new y<new z<new")
        self.assertEqual(enough(rule_of(["x", "y", "z"], *rows)), [["x", "z"], ["y"]])
        self.assertEqual(enough(rule_of(["z", "x", "y"], *rows)), [["z", "x"], ["y"]])
        self.assertEqual(enough(rule_of(["y", "z", "x"], *rows)), [["y"], ["z", "x"]])

    def test_as_all_subsets(self):
        chance = random.Random(23)
        told = set()
        for registers in (["x"], ["x", "y"], ["y", "beside", "x"], ["x", "elder"], ["z", "x", "y"]):
            for _ in range(14):
                rule = chance_rule(chance, registers)
                with self.subTest(registers=registers, lines=rule.lines):
                    self.assertEqual(enough(rule), enough_by_hand(rule))
                    told.add(tuple(len(part) for part in enough(rule)))
        self.assertLessEqual({(0,), (1,), (2,)}, told)

    def test_what_is_told_is_enough_and_least(self):
        for rule in sample_rules() + [two_that_do_the_same(), one_that_matters_beside_another()]:
            for kept in enough(rule):
                for part in parts(kept):
                    others = [name for name in rule.notes if name not in part]
                    self.assertIs(alike(rule, without(rule, others)), part == kept)

    def test_lists_that_are_told_are_new(self):
        rule = one_that_matters_beside_another()
        enough(rule)[0].clear()
        enough(rule).clear()
        self.assertEqual(enough(rule=rule), [["x", "y"]])

    def test_many_notes_end_quickly(self):
        start = time.monotonic()
        self.assertEqual(enough(rule_that((("here", "z"), ("z", "y"), ("y", "x"), ("x", "new")),
                                          registers=["x", "y", "z"])), [["x", "y", "z"]])
        self.assertIsInstance(enough(wide_rule()), list)
        self.assertLess(time.monotonic() - start, 20)

    def test_the_document_s_rule(self):
        spare = Rule(["was", "other"], [UNTOUCHED, ARRIVED, SAME, ((), ASK[1] + (("other", "new"),), ASK[2])])
        self.assertEqual(enough(spare), [["was"]])


if __name__ == "__main__":
    unittest.main()
