"""Point [13] and "Stage 7" of the interface: whether a rule hangs on the way."""

import random
import unittest

from helper import (any_values, asking_rule, beside_rule, caught, chance_rule, contents_to_try, deeds_by_hand, do,
                    is_deed_by_hand, moving_rule, pattern_by_hand, rule_of, rule_that, sample_rules, simple_rule,
                    wide_rule)
from stillmine.errors import BadAnswer
from stillmine.files import File
from stillmine.rules import Rule
from stillmine.ways import hanging

NEW = (("here", "new"),)
ANSWERS = ("take", "keep")


def brought(file, answer, *contents):
    """What is here once some contents have come to a fork of a file, one after the other."""
    file = file.fork()
    for content in contents:
        file.upgrade(content, answer=answer)
    return file.here


def hangs_at(file, answer):
    """Whether there are X and Y with which what is here hangs on the way for this file."""
    contents = contents_to_try(file) + ["yet another"]
    return any(brought(file, answer, one, other) != brought(file, answer, other)
               for one in contents for other in contents)


def distance_by_hand(rule, answer):
    """The least number of deeds behind which a rule hangs on the way, or None."""
    level, seen, count = [File(rule)], set(), 0
    while level:
        if any(hangs_at(file, answer) for file in level):
            return count
        following = []
        for file in level:
            for deed, _, behind in deeds_by_hand(file, contents_to_try(file), False):
                if deed[0] == "edit" or deed[2] in (None, answer):
                    if pattern_by_hand(behind) not in seen:
                        seen.add(pattern_by_hand(behind))
                        following.append(behind)
        level, count = following, count + 1
    return None


class Hanging(unittest.TestCase):
    def assert_told(self, rule, answer, told):
        """That a rule hangs on the way as it is told."""
        self.assertIsInstance(told, tuple)
        path, one, other = told
        self.assertIsInstance(path, list)
        file = File(rule)
        for deed in path:
            self.assertTrue(is_deed_by_hand(file, deed, False))
            if len(deed) == 4:
                self.assertIn(deed[2], (None, answer))
                self.assertIsNone(deed[3])
            do(file, deed)
        for content in (one, other):
            self.assertTrue(content is None or isinstance(content, str))
        self.assertNotEqual(brought(file, answer, one, other), brought(file, answer, other))

    def assert_distance(self, rule, answer, distance):
        """That a rule hangs on the way behind so many deeds, or does not with None."""
        with self.subTest(registers=rule.registers, lines=rule.lines, answer=answer):
            told = hanging(rule, answer)
            self.assertEqual(None if told is None else len(told[0]), distance)
            if told is not None:
                self.assert_told(rule, answer, told)

    def test_as_a_search_by_hand(self):
        chance = random.Random(21)
        kinds = ([], ["x"], ["beside"], ["elder"], ["x", "y"], ["elder", "x"])
        rules = sample_rules() + [chance_rule(chance, registers) for registers in kinds for _ in range(10)]
        told = set()
        for rule in rules:
            for answer in ANSWERS:
                told.add(distance_by_hand(rule, answer))
                self.assert_distance(rule, answer, distance_by_hand(rule, answer))
        self.assertLessEqual({None, 0, 1}, told)

    def test_rules_that_do_not_hang(self):
        for answer in ANSWERS:
            for rule in (simple_rule(), rule_that(()), rule_that(NEW, keep=NEW), rule_that(NEW, keep=()),
                         rule_that((("here", "nothing"),), registers=["beside"]),
                         rule_that(NEW + (("was", "new"), ("beside", "was")), registers=["was", "beside"])):
                self.assert_distance(rule, answer, None)

    def test_behind_the_empty_path(self):
        # What came before is put here as soon as something else comes.
        rule = rule_that((("here", "was"), ("was", "new")), registers=["was"])
        for answer in ANSWERS:
            self.assert_distance(rule, answer, 0)
            self.assertEqual(hanging(rule, answer)[0], [])

    def test_the_first_text_stays(self):
        rule = Rule([], [((("here", "nothing", True),), NEW), ((), ())])
        for answer in ANSWERS:
            self.assert_distance(rule, answer, 0)

    def test_with_two_different_new_texts_alone(self):
        rule = rule_of(["was"], "new=nothing:here<nothing was<nothing", "was=nothing:here<new was<new", ":here<was")
        for answer in ANSWERS:
            self.assert_distance(rule, answer, 0)
            _, one, other = hanging(rule, answer)
            self.assertEqual([None in (one, other), one == other], [False, False])

    def test_behind_longer_paths(self):
        # Only what stands in both notes, and was not just brought, makes the rule forget what comes.
        rule = Rule(["x", "y"], [
            ((("y", "nothing", False), ("new", "y", False)), (("here", "x"), ("x", "new"))),
            ((), NEW + (("y", "x"), ("x", "here"))),
        ])
        for answer in ANSWERS:
            distance = distance_by_hand(rule, answer)
            self.assertIn(distance, (1, 2, 3))
            self.assert_distance(rule, answer, distance)

    def test_each_answer_by_itself(self):
        forgets = (("here", "was"), ("was", "new"))
        one = rule_that(NEW, keep=forgets, registers=["was"])
        self.assert_distance(one, "take", None)
        self.assert_distance(one, "keep", 0)
        other = rule_that(forgets, keep=NEW, registers=["was"])
        self.assert_distance(other, "take", 0)
        self.assert_distance(other, "keep", None)

    def test_questions_on_the_path_have_the_answer(self):
        # With take the note is never filled, and with keep it is.
        rule = Rule(["x"], [((("x", "nothing", False),), (("here", "x"), ("x", "new"))),
                            ((("here", "new", False),), NEW, NEW + (("x", "new"),)),
                            ((), NEW)])
        self.assert_distance(rule, "take", None)
        self.assert_distance(rule, "keep", distance_by_hand(rule, "keep"))
        self.assertIsNotNone(hanging(rule, "keep"))

    def test_as_to_here_alone(self):
        for place in ("beside", "elder", "x"):
            rule = rule_that(((place, "here"), ("here", "new")), registers=[place])
            for answer in ANSWERS:
                self.assert_distance(rule, answer, None)

    def test_with_a_renaming_on_the_path(self):
        rule = Rule(["elder"], [
            ((("elder", "nothing", True),), NEW),
            ((("here", "nothing", True),), NEW),
            ((("here", "new", False), ("elder", "new", False)), (("here", "elder"),)),
            ((), NEW),
        ])
        for answer in ANSWERS:
            distance = distance_by_hand(rule, answer)
            self.assertIsNotNone(distance)
            self.assertGreater(distance, 0)
            self.assert_distance(rule, answer, distance)
            self.assertIn("renamed", [deed[0] for deed in hanging(rule, answer)[0]])

    def test_samples(self):
        for rule in (asking_rule(), moving_rule(), beside_rule()):
            for answer in ANSWERS:
                self.assert_distance(rule, answer, distance_by_hand(rule, answer))

    def test_large_rules(self):
        for answer in ANSWERS:
            told = hanging(wide_rule(), answer)
            if told is not None:
                self.assert_told(wide_rule(), answer, told)

    def test_lists_that_are_told_are_new(self):
        rule = asking_rule()
        before = hanging(rule, "take")
        hanging(rule, "take")[0].clear()
        hanging(rule, "take")[0].append(None)
        self.assertEqual(hanging(answer="take", rule=rule), before)
        self.assertEqual(rule, asking_rule())

    def test_bad_answers(self):
        values = any_values() + ["Take", "take ", "keep,", "both", ("take",), ["keep"], {"take": "keep"}]
        for value in values:
            if value not in ANSWERS:
                for rule in (asking_rule(), simple_rule(), rule_that((), keep=())):
                    error = caught(hanging, rule, value)
                    self.assertIsInstance(error, BadAnswer)
                    self.assertIs(error.value, value)
        self.assertIsInstance(caught(hanging, rule=simple_rule(), answer=None), BadAnswer)
        for answer in ANSWERS:
            self.assertIsNone(caught(hanging, simple_rule(), answer))


if __name__ == "__main__":
    unittest.main()
