"""Point [12] and "Stage 6" of the interface: whether two rules are alike, and where they part."""

import itertools
import random
import time
import unittest

from helper import (ARRIVED, ASK, SAME, UNTOUCHED, asking_rule, beside_rule, caught, chance_rule, contents_of,
                    contents_to_try, deeds_by_hand, do, is_deed_by_hand, moving_rule, numbers_of, rule_that,
                    sample_rules, simple_rule, wide_rule)
from stillmine.alike import alike, parting
from stillmine.errors import OtherPlaces
from stillmine.files import File
from stillmine.rules import Rule

NEW = (("here", "new"),)
NEVER = (("here", "here", False),)


def seen(file):
    """What lies here and at the places of a file."""
    return [file.here] + [file[place] for place in file.rule.places]


def steps_of_both(one, other):
    """All tuples (deed, whether it parts them, one file behind, the other) of two files that have not parted."""
    contents = contents_to_try(one, other)
    told = {deed: behind for deed, _, behind in deeds_by_hand(other, contents, False)}
    steps = []
    for deed, _, behind in deeds_by_hand(one, contents, False):
        beside = told.pop(deed, None)
        steps.append((deed, beside is None or seen(behind) != seen(beside), behind, beside))
    return steps + [(deed, True, None, beside) for deed, beside in told.items()]


def distance_by_hand(first, second):
    """The least number of deeds behind which two rules part, or None."""
    level, count = [(File(first), File(second))], 0
    met = set()
    while level:
        count += 1
        following = []
        for pair in level:
            for _, parted, *behind in steps_of_both(*pair):
                if parted:
                    return count
                key = numbers_of([content for file in behind for content in contents_of(file)]), behind[0].mark
                if key not in met:
                    met.add(key)
                    following.append(behind)
        level = following
    return None


def changed_by_chance(chance, rule):
    """A rule that is mostly much like another one, with the same places."""
    lines = [list(line) for line in rule.lines]
    at = chance.randrange(len(lines))
    part = chance.randrange(len(lines[at]))
    if chance.random() < 0.3:
        lines.insert(at, [NEVER, NEW])
    elif chance.random() < 0.4 and len(lines) > 1:
        del lines[chance.randrange(len(lines) - 1)]
    elif part == 0:
        lines[at][0] = lines[at][0][1:]
    else:
        lines[at][part] = lines[at][part] + ((chance.choice(("here", *rule.registers)), "new"),)
    return Rule(rule.registers, [tuple(line) for line in lines])


class Pairs(unittest.TestCase):
    """What tests of pairs ask."""

    def assert_parting(self, first, second, path):
        """That two rules part at the last deed of a path, and not before."""
        self.assertIsInstance(path, list)
        one, other = File(first), File(second)
        for position, deed in enumerate(path):
            last = position == len(path) - 1
            self.assertIsNone(deed[3] if len(deed) == 4 else None)
            fit = [is_deed_by_hand(file, deed, False) for file in (one, other)]
            self.assertIn(True, fit)
            parted = False in fit
            if parted:
                self.assertIn(deed[2], ("take", "keep"))
            do(one, deed)
            do(other, deed)
            self.assertEqual(parted or seen(one) != seen(other), last)

    def assert_distance(self, first, second, distance):
        """That two rules part behind so many deeds, or are alike with None, in both sequences."""
        for one, other in ((first, second), (second, first)):
            with self.subTest(first=one.lines, second=other.lines):
                path = parting(one, other)
                self.assertEqual(None if path is None else len(path), distance)
                self.assertIs(alike(one, other), distance is None)
                if path is not None:
                    self.assert_parting(one, other, path)


class Alike(Pairs):
    def test_equal_rules(self):
        chance = random.Random(18)
        for rule in sample_rules() + [chance_rule(chance, ["x", "elder"]) for _ in range(10)] + [wide_rule()]:
            self.assert_distance(rule, Rule(list(rule.registers), list(rule.lines)), None)

    def test_a_line_that_is_never_taken(self):
        for rule in sample_rules():
            for position in range(len(rule.lines)):
                lines = list(rule.lines)
                lines.insert(position, (NEVER, NEW + NEW, ()))
                self.assert_distance(rule, Rule(rule.registers, lines), None)

    def test_a_line_that_no_path_leads_to(self):
        filled = ((("was", "nothing", False), ("here", "was", False)), (("here", "was"),), ())
        self.assert_distance(rule_that(NEW), Rule(["was"], [filled, ((), NEW)]), None)
        self.assert_distance(rule_that(NEW), Rule(["was"], [filled, ((), NEW + (("was", "here"),))]), 3)

    def test_notes_do_not_count(self):
        other = Rule(["note", "more"], [
            ((("here", "more", True),), (("here", "new"), ("more", "new"), ("note", "here"))),
            ((("here", "new", True),), (("more", "new"), ("note", "nothing"))),
            ((("new", "more", True),), (("note", "new"),)),
            ((), (("here", "new"), ("more", "new")), (("more", "new"), ("note", "here"))),
        ])
        self.assert_distance(asking_rule(), other, None)
        self.assert_distance(simple_rule(), Rule(["x", "y", "z"], [((), (("x", "new"), ("here", "new")))]), None)

    def test_places_beside_other_notes(self):
        one = Rule(["was", "beside", "elder"], [((), (("was", "here"), ("beside", "was"), ("elder", "nothing")))])
        other = Rule(["beside", "x", "elder"], [((), (("beside", "here"), ("elder", "nothing")))])
        self.assert_distance(one, other, None)

    def test_steps_in_another_sequence(self):
        one = Rule(["was"], [((), NEW + (("was", "new"),))])
        self.assert_distance(one, Rule(["was"], [((), (("was", "new"),) + NEW)]), None)

    def test_more_lines_for_the_same(self):
        lines = [((("new", "nothing", True),), (("here", "nothing"),)), ((), NEW)]
        self.assert_distance(simple_rule(), Rule([], lines), None)

    def test_troubles_do_not_count(self):
        one = rule_that((("here", "here"),))
        self.assert_distance(one, rule_that(()), None)


class Parting(Pairs):
    def test_here_differs(self):
        self.assert_distance(simple_rule(), rule_that(()), 1)
        self.assert_distance(simple_rule(), rule_that((("here", "nothing"),)), 1)
        kept = Rule([], [((("new", "nothing", True),), ()), ((), NEW)])
        self.assert_distance(simple_rule(), kept, 2)

    def test_a_place_differs(self):
        for place in ("beside", "elder"):
            one = rule_that(NEW + ((place, "nothing"),), registers=[place])
            self.assert_distance(one, rule_that(NEW + ((place, "new"),), registers=[place]), 1)
            self.assert_distance(one, rule_that(((place, "here"), ("here", "new")), registers=[place]), 2)

    def test_two_places_that_differ(self):
        one = Rule(["beside", "elder"], [((), (("beside", "here"), ("elder", "nothing")))])
        other = Rule(["beside", "elder"], [((), (("elder", "here"), ("beside", "nothing")))])
        self.assert_distance(one, other, 2)

    def test_one_asks(self):
        self.assert_distance(simple_rule(), rule_that(NEW, keep=NEW), 1)
        path = parting(simple_rule(), rule_that(NEW, keep=NEW))
        self.assertEqual((path[0][0], path[0][2] in ("take", "keep"), path[0][3]), ("upgrade", True, None))

    def test_one_asks_later(self):
        noisy = Rule(["was"], [UNTOUCHED, ARRIVED, ASK])
        self.assert_distance(asking_rule(), noisy, 2)
        self.assert_distance(asking_rule(), Rule(["was"], [ARRIVED, UNTOUCHED, SAME, ASK]), None)

    def test_with_one_answer_alone(self):
        for lists, answer in (((NEW, ()), "keep"), (((), NEW), "take")):
            path = parting(rule_that(lists[0], keep=lists[1]), rule_that(NEW, keep=NEW))
            self.assertEqual((len(path), path[0][2]), (1, answer))
            self.assert_distance(rule_that(lists[0], keep=lists[1]), rule_that(NEW, keep=NEW), 1)

    def test_with_a_renaming_alone(self):
        one = Rule(["elder"], [((), NEW)])
        other = Rule(["elder"], [((("elder", "nothing", False),), NEW + (("elder", "nothing"),)), ((), NEW)])
        self.assert_distance(one, other, 2)
        self.assertEqual(parting(one, other)[1][0], "renamed")
        self.assertIs(alike(Rule(["x"], one.lines),
                            Rule(["x"], [((("x", "nothing", False),), (("here", "nothing"),)), ((), NEW)])), True)

    def test_by_what_a_note_held(self):
        one = Rule(["x", "y"], [((("x", "y", False),), (("here", "y"), ("x", "new"), ("y", "x"))),
                                ((), NEW + (("y", "x"), ("x", "new")))])
        other = Rule(["x", "y"], [((("x", "y", False),), (("here", "x"), ("x", "new"), ("y", "x"))),
                                  ((), NEW + (("y", "x"), ("x", "new")))])
        self.assert_distance(one, other, distance_by_hand(one, other))
        self.assertIsNotNone(parting(one, other))

    def test_by_what_came_long_ago(self):
        # Here and last look the same behind each upgrade, so that only the notes of one rule tell the difference.
        shift = NEW + (("x", "y"), ("y", "new"))
        again = (("new", "x", True), ("x", "nothing", False))
        for lists in (((("here", "nothing"),),), (NEW, NEW)):
            one = Rule(["x", "y"], [(again, *lists), ((), shift)])
            self.assert_distance(one, simple_rule(), 3)
            self.assert_distance(one, Rule(["z"], [((), NEW + (("z", "here"),))]), 3)
            self.assert_distance(Rule(["x", "y"], [(again + (("x", "y", False),), *lists), ((), shift)]),
                                 Rule(["y"], [((), NEW + (("y", "new"),))]), 3)

    def test_by_what_both_notes_hold(self):
        # One rule sees that what was struck comes again, the other one that what came before comes again.
        one = Rule(["x"], [((("here", "nothing", True), ("new", "x", True), ("x", "nothing", False)), ()),
                           ((), NEW + (("x", "new"),))])
        other = Rule(["x", "y"], [((("here", "nothing", True), ("new", "y", True), ("x", "nothing", False)), ()),
                                  ((), NEW + (("x", "y"), ("y", "new")))])
        self.assert_distance(one, other, distance_by_hand(one, other))
        self.assertIsNotNone(distance_by_hand(one, other))

    def test_as_a_search_by_hand(self):
        chance = random.Random(19)
        told = []
        for registers in ([], ["x"], ["beside"], ["elder"], ["x", "y"], ["elder", "x"], ["beside", "x"]):
            for _ in range(14):
                first = chance_rule(chance, registers)
                second = chance_rule(chance, registers) if chance.random() < 0.2 else changed_by_chance(chance, first)
                told.append(distance_by_hand(first, second))
                self.assert_distance(first, second, told[-1])
        self.assertLessEqual({None, 1, 2, 3}, set(told))

    def test_samples_against_each_other(self):
        for first, second in itertools.combinations(sample_rules(), 2):
            if first.places == second.places:
                self.assert_distance(first, second, distance_by_hand(first, second))

    def test_lists_that_are_told_are_new(self):
        one, other = simple_rule(), rule_that(())
        before = parting(one, other)
        parting(one, other).clear()
        parting(one, other)[0] = None
        self.assertEqual(parting(first=one, second=other), before)
        self.assertIs(alike(first=one, second=other), False)
        self.assertEqual((one, other), (simple_rule(), rule_that(())))

    def test_many_notes_end_quickly(self):
        start = time.monotonic()
        one = Rule(["a", "b", "c"], [((), (("c", "b"), ("b", "a"), ("a", "new"), ("here", "new")))])
        other = Rule(["x", "y", "z"], [((), (("z", "y"), ("y", "x"), ("x", "here"), ("here", "new")))])
        self.assert_distance(one, other, None)
        self.assertLess(time.monotonic() - start, 20)


class Refusals(unittest.TestCase):
    def test_other_places(self):
        rules = [rule_that((), registers=registers) for registers in
                 ([], ["beside"], ["elder"], ["beside", "elder"], ["elder", "beside"], ["elder", "x", "beside"])]
        for first, second in itertools.product(rules, repeat=2):
            for call in (alike, parting):
                error = caught(call, first, second)
                if first.places == second.places:
                    self.assertIsNone(error)
                else:
                    self.assertIsInstance(error, OtherPlaces)
                    self.assertEqual(error.value, second.places)
                    self.assertIsInstance(error.value, tuple)

    def test_places_of_the_second_rule(self):
        self.assertEqual(caught(alike, moving_rule(), beside_rule()).value, ("beside",))
        self.assertEqual(caught(parting, beside_rule(), moving_rule()).value, ("elder",))
        self.assertEqual(caught(parting, beside_rule(), simple_rule()).value, ())
        self.assertIsNone(caught(parting, rule_that((), registers=["x", "beside"]), beside_rule()))


if __name__ == "__main__":
    unittest.main()
