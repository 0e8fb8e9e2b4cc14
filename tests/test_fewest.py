"""Point [16] and "Stage 10" of the interface: how few contents show a trouble."""

import random
import time
import unittest

from helper import (TROUBLES, any_values, asking_rule, beside_rule, caught, chance_rule, deeds_by_hand, moving_rule,
                    picture, rule_of, rule_that, sample_rules, simple_rule, troubles_along, wide_rule)
from stillmine.errors import BadTrouble
from stillmine.fewest import fewest
from stillmine.files import File
from stillmine.rules import Rule
from stillmine.troubles import shortest, shows

NEW = (("here", "new"),)


def troubles_with(rule, texts, stops):
    """All troubles of paths on which there are only some texts, by a search over files with these very texts."""
    found = set()
    seen, waiting = [], [File(rule)]
    met = {repr(picture(waiting[0]))}
    while waiting:
        file = waiting.pop()
        seen.append(file)
        for _, troubles, behind in deeds_by_hand(file, [None, *texts], stops):
            found.update(troubles)
            if repr(picture(behind)) not in met:
                met.add(repr(picture(behind)))
                waiting.append(behind)
    return found


def numbers_by_hand(rule, stops):
    """A dict from troubles to the fewest contents of them."""
    numbers = {}
    for number, texts in enumerate(("", "a", "ab", "abc")):
        for trouble in troubles_with(rule, list(texts), stops):
            numbers.setdefault(trouble, number)
    return numbers


def texts_of(path):
    """The different texts on a path."""
    return {deed[1] for deed in path} - {None}


class Fewest(unittest.TestCase):
    def assert_told(self, rule, trouble, stops, number):
        """That fewest tells a number, and a path with so many texts that shows the trouble; or None."""
        told = fewest(rule, trouble, stops=stops)
        if number is None:
            self.assertIsNone(told)
            return
        self.assertIsInstance(told, tuple)
        count, path = told
        self.assertEqual((count, type(count)), (number, int))
        self.assertIsInstance(path, list)
        self.assertEqual(len(texts_of(path)), number)
        self.assertIs(shows(rule, trouble, path, stops=stops), True)
        self.assertIn(trouble, troubles_along(File(rule), path, stops))

    def test_as_a_search_by_hand(self):
        chance = random.Random(31)
        rules = sample_rules()[:4] + [moving_rule()]
        rules += [chance_rule(chance, registers) for registers in ([], ["x"], ["elder"], ["beside"]) for _ in range(9)]
        told = set()
        for rule in rules:
            for stops in (False, True):
                numbers = numbers_by_hand(rule, stops)
                for trouble in TROUBLES:
                    with self.subTest(registers=rule.registers, lines=rule.lines, trouble=trouble, stops=stops):
                        # With three texts nothing comes that fewer do not show, or the search by hand ends too soon.
                        self.assertNotEqual(numbers.get(trouble), 3)
                        self.assert_told(rule, trouble, stops, numbers.get(trouble))
                        told.add(numbers.get(trouble))
        self.assertEqual(told, {None, 0, 1, 2})

    def test_by_hand(self):
        self.assert_told(simple_rule(), "lost", False, 1)
        self.assert_told(simple_rule(), "needless", True, None)
        self.assert_told(rule_that((), keep=()), "needless", False, 0)
        self.assert_told(rule_that(()), "stale", False, 1)
        self.assert_told(rule_that(NEW, registers=["elder"]), "left", False, 1)
        self.assert_told(asking_rule(), "needless", True, 2)
        self.assert_told(asking_rule(), "needless", False, None)

    def test_three_texts(self):
        # Nothing is done only if what is here, what comes, and what is in the note are three different texts.
        rule = rule_of(["x"], "new=nothing:here<nothing", "here=nothing:here<new", "x=nothing:x<here here<new",
                       "here!new x!new x!here:", ":here<new")
        for stops in (False, True):
            self.assertEqual(numbers_by_hand(rule, stops)["stale"], 3)
            self.assert_told(rule, "stale", stops, 3)

    def test_a_text_that_is_not_held_any_more_comes_again(self):
        # What was brought and struck, and then was dropped, is a person's text when it is laid again.
        rule = rule_of(["x"], "new=x:", ":x<here here<new")
        self.assertEqual(len(shortest(rule, "lost")), 2)
        self.assert_told(rule, "lost", False, 1)
        self.assertEqual(len(fewest(rule, "lost")[1]), 5)

    def test_fewer_with_stops(self):
        # The same text that a person laid comes, and is not here between the steps.
        rule = rule_of(["beside"], "new!beside:here<beside here<new", ":")
        self.assert_told(rule, "lost", False, 2)
        self.assert_told(rule, "lost", True, 1)
        self.assertEqual([len(fewest(rule, "lost", stops=stops)[1]) for stops in (False, True)], [2, 2])

    def test_more_texts_than_a_shortest_path_has(self):
        for rule in sample_rules() + [wide_rule()]:
            for trouble in TROUBLES:
                for stops in (False, True):
                    path, told = shortest(rule, trouble, stops=stops), fewest(rule, trouble, stops=stops)
                    self.assertEqual(path is None, told is None)
                    if told is not None:
                        self.assertLessEqual(told[0], len(texts_of(path)))
                        self.assertGreaterEqual(len(told[1]), len(path))
                        self.assert_told(rule, trouble, stops, told[0])


    def test_paths_without_stops_have_none(self):
        for rule in sample_rules():
            for trouble in TROUBLES:
                told = fewest(rule, trouble)
                for deed in told[1] if told else []:
                    self.assertIn(deed[3:], [(), (None,)])

    def test_large_rules_end_quickly(self):
        start = time.monotonic()
        for trouble in TROUBLES:
            for stops in (False, True):
                told = fewest(wide_rule(), trouble, stops=stops)
                if told is not None:
                    self.assert_told(wide_rule(), trouble, stops, told[0])
        self.assertLess(time.monotonic() - start, 20)

    def test_lists_that_are_told_are_new(self):
        rule = simple_rule()
        before = fewest(rule, "lost")
        fewest(rule, "lost")[1].clear()
        self.assertEqual(fewest(stops=False, trouble="lost", rule=rule), before)
        self.assertEqual(rule, simple_rule())

    def test_bad_troubles_first(self):
        for value in any_values() + ["Lost", ("lost",), ["lost"], {"lost": 1}, "lost "]:
            for rule in (asking_rule(), beside_rule(), Rule([], [((), ())]), None, []):
                for stops in (False, True):
                    error = caught(fewest, rule, value, stops=stops)
                    self.assertIsInstance(error, BadTrouble)
                    self.assertIs(error.value, value)
        for trouble in TROUBLES:
            self.assertIsNone(caught(fewest, asking_rule(), trouble))


if __name__ == "__main__":
    unittest.main()
