"""Point [10] and "Stage 5" of the interface: shortest paths to troubles, and which values are paths that show one."""

import itertools
import random
import time
import unittest

from helper import (TROUBLES, any_values, asking_rule, beside_rule, caught, chance_rule, contents_to_try,
                    deeds_by_hand, distances_by_hand, do, file_with, files_by_hand, moving_rule, pattern_by_hand,
                    picture, rule_that, sample_rules, simple_rule, troubles_along, wide_rule)
from stillmine.errors import BadTrouble
from stillmine.files import File, standing
from stillmine.rules import Rule
from stillmine.troubles import ahead, shortest, shows

TAKEN = ("upgrade", "y", None, None)


def sometimes_asks():
    """A rule that asks only if here is not the note; the lists have other lengths."""
    return Rule(["was"], [
        ((("here", "was", True),), (("here", "new"), ("was", "new"))),
        ((), (("was", "new"), ("here", "nothing"), ("here", "new")), (("was", "new"),)),
    ])


def chance_rules():
    """Rules with all kinds of registers."""
    chance = random.Random(14)
    kinds = ([], ["x"], ["beside"], ["elder"], ["x", "y"], ["beside", "x"], ["elder", "x"], ["elder", "beside"])
    return [chance_rule(chance, registers) for registers in kinds for _ in range(3)]


class Paths(unittest.TestCase):
    """What tests of told paths ask."""

    def assert_path(self, file, path, trouble, stops):
        """That a file can have these deeds, one after the other, and the last one has the trouble."""
        self.assertIsInstance(path, list)
        for deed in path:
            self.assertIsInstance(deed, tuple)
            self.assertTrue(deed[1] is None or isinstance(deed[1], str))
        self.assertIn(trouble, troubles_along(file, path, stops) or [])


class Shortest(Paths):
    def test_as_a_search_by_hand(self):
        found = set()
        for rule in sample_rules() + chance_rules():
            for stops in (False, True):
                distances = distances_by_hand(File(rule), stops)
                for trouble in TROUBLES:
                    with self.subTest(registers=rule.registers, lines=rule.lines, trouble=trouble, stops=stops):
                        path = shortest(rule, trouble, stops=stops)
                        self.assertEqual(None if path is None else len(path), distances.get(trouble))
                        if path is not None:
                            self.assert_path(File(rule), path, trouble, stops)
                            self.assertIs(shows(rule, trouble, path, stops=stops), True)
                            found.add((trouble, stops, len(path)))
        self.assertEqual({found_one[:2] for found_one in found}, set(itertools.product(TROUBLES, (False, True))))
        self.assertGreaterEqual(max(length for _, _, length in found), 4)

    def test_as_all_short_lists_of_deeds(self):
        for rule in (simple_rule(), sometimes_asks(), rule_that((("here", "nothing"),), keep=(("here", "new"),))):
            for stops in (False, True):
                level = [File(rule)]
                for length in (1, 2, 3):
                    told = [each for file in level for each in deeds_by_hand(file, [None, "a", "b", "c"], stops)]
                    troubles = {trouble for _, each, _ in told for trouble in each}
                    for trouble in TROUBLES:
                        path = shortest(rule, trouble, stops=stops)
                        if trouble in troubles:
                            self.assertLessEqual(len(path), length)
                        else:
                            self.assertTrue(path is None or len(path) != length)
                    level = [file for _, _, file in told]

    def test_without_stops_all_stops_are_none(self):
        for rule in sample_rules() + chance_rules():
            for trouble in TROUBLES:
                path = shortest(rule, trouble)
                for deed in path or []:
                    self.assertIsNone(deed[3] if len(deed) == 4 else None)
                if path is not None:
                    self.assertLessEqual(len(shortest(rule, trouble, stops=True)), len(path))

    def test_paths_that_can_be_told_beforehand(self):
        path = shortest(simple_rule(), "lost")
        self.assertEqual([path[0][0], path[1][0], path[1][2:]], ["edit", "upgrade", (None, None)])
        self.assertIsNotNone(path[0][1])
        self.assertNotEqual(path[0][1], path[1][1])
        path = shortest(simple_rule(), "revived")
        self.assertEqual([len(path), path[0][0], path[1][:2], path[2][0]], [3, "upgrade", ("edit", None), "upgrade"])
        path = shortest(rule_that(()), "stale")
        self.assertEqual([len(path), path[0][0]], [1, "upgrade"])
        path = shortest(rule_that((), keep=()), "needless")
        self.assertEqual([len(path), path[0][0], path[0][2] in ("take", "keep")], [1, "upgrade", True])
        path = shortest(rule_that((("here", "new"),), registers=["elder"]), "left")
        self.assertEqual([len(path), path[-1][0], path[-1][2:]], [2, "renamed", (None, None)])

    def test_a_path_that_needs_a_stop(self):
        rule = asking_rule()
        path = shortest(rule, "needless", stops=True)
        self.assertEqual(len(path), 2)
        self.assertIsNotNone(path[0][3])
        self.assertIsNone(shortest(rule, "needless", stops=False))

    def test_none(self):
        for stops in (False, True):
            self.assertIsNone(shortest(simple_rule(), "needless", stops=stops))
            self.assertIsNone(shortest(asking_rule(), "left", stops=stops))
            self.assertIsNone(shortest(rule_that((("here", "here"),)), "lost", stops=stops))

    def test_lists_that_are_told_are_new(self):
        rule = simple_rule()
        before = shortest(rule, "lost")
        shortest(rule, "lost").clear()
        shortest(rule, "lost")[0] = None
        self.assertEqual(shortest(rule=rule, trouble="lost", stops=False), before)

    def test_large_rules_end_quickly(self):
        start = time.monotonic()
        for trouble in TROUBLES:
            path = shortest(wide_rule(), trouble, stops=True)
            if path is not None:
                self.assert_path(File(wide_rule()), path, trouble, True)
        self.assertLess(time.monotonic() - start, 20)


class Ahead(Paths):
    def test_of_files_on_paths(self):
        for rule in sample_rules() + chance_rules()[:16]:
            chance = random.Random(15)
            files = list(files_by_hand(File(rule), True).values())
            for file in chance.sample(files, min(6, len(files))):
                for stops in (False, True):
                    self.assert_ahead(file, stops)

    def test_of_files_that_stand_so(self):
        chance = random.Random(16)
        for rule in (asking_rule(), moving_rule(), beside_rule(), simple_rule()):
            size = len(rule.registers)
            for mark, amid in itertools.product(("none", "own", "free"), (False, True)):
                contents = [chance.choice(["a", "b", "c", "", "z", None]) for _ in range(size + 3)]
                file = standing(rule, contents[:-2], last=contents[-2], mark=mark, mine=contents[-1], amid=amid)
                for stops in (False, True):
                    self.assert_ahead(file, stops)

    def assert_ahead(self, file, stops):
        """That ahead tells for each trouble as many deeds as a search by hand, and that the file can have them."""
        before = picture(file)
        distances = distances_by_hand(file, stops)
        for trouble in TROUBLES:
            with self.subTest(lines=file.rule.lines, picture=before, trouble=trouble, stops=stops):
                deeds = ahead(file, trouble, stops=stops)
                self.assertEqual(None if deeds is None else len(deeds), distances.get(trouble))
                if deeds is not None:
                    self.assert_path(file, deeds, trouble, stops)
        self.assertEqual(picture(file), before)

    def test_of_a_new_file(self):
        for rule in sample_rules():
            for trouble, stops in itertools.product(TROUBLES, (False, True)):
                path, deeds = shortest(rule, trouble, stops=stops), ahead(File(rule), trouble, stops=stops)
                self.assertEqual(path and len(path), deeds and len(deeds))

    def test_with_the_file_s_own_contents(self):
        rule = Rule(["was"], [((("new", "was", True),), (("here", "nothing"),)), ((), (("here", "new"),))])
        file = standing(rule, ["mine", "some text"], last="last", mark="own", mine="mine")
        for _ in range(2):
            self.assertEqual(len(ahead(file, "stale")), 1)
            self.assertEqual(ahead(file, "stale")[0], ("upgrade", "some text", None, None))
        self.assertNotIn(ahead(file, "lost")[0][1], ["mine"])

    def test_another_content_is_none_of_the_file_s(self):
        rule = Rule(["x", "y", "z"], [
            *[((("new", name, True),), (("here", "here"),)) for name in ("here", "x", "y", "z", "nothing")[:4]],
            ((("new", "nothing", True),), (("here", "here"),)),
            ((), (("here", "nothing"),)),
        ])
        for contents in (["a", "b", "c", "d"], ["d", "c", "b", "a"], ["", "a", " ", "\n"], ["new", "1", "text", "x"]):
            file = standing(rule, contents, mark="own", mine=contents[0], last="e")
            deeds = ahead(file, "lost")
            self.assertEqual(len(deeds), 1)
            self.assertNotIn(deeds[0][1], [None, *contents])

    def test_amid_an_upgrade_no_edits(self):
        file = File(simple_rule())
        file.upgrade("a")
        file.upgrade("b", stop=0)
        deeds = ahead(file, "lost")
        self.assertEqual([len(deeds), [deed[0] for deed in deeds]], [3, ["upgrade", "edit", "upgrade"]])

    def test_lists_that_are_told_are_new(self):
        file = File(simple_rule())
        file.edit("a")
        before = ahead(file, "lost")
        ahead(file, "lost").clear()
        self.assertEqual(ahead(file=file, trouble="lost", stops=False), before)
        self.assertEqual(picture(file), (["a"], None, "own", ("a",), False))


class Shows(Paths):
    def assert_shows(self, worth, rule, trouble, value, **named):
        with self.subTest(value=value, trouble=trouble, **named):
            self.assertIs(shows(rule, trouble, value, **named), worth)

    def test_by_hand(self):
        lost = [("edit", "x"), TAKEN]
        self.assert_shows(True, simple_rule(), "lost", lost)
        self.assert_shows(True, simple_rule(), "lost", lost, stops=True)
        self.assert_shows(False, simple_rule(), "revived", lost)
        self.assert_shows(True, simple_rule(), "revived", [("upgrade", "x", None, None), ("edit", None), TAKEN])

    def test_any_contents(self):
        for one, other in itertools.permutations(("", " ", "two\nlines", "here", "nothing", "~"), 2):
            self.assert_shows(True, simple_rule(), "lost", [("edit", one), ("upgrade", other, None, None)])
        self.assert_shows(True, simple_rule(), "lost", [("edit", ""), ("upgrade", None, None, None)])
        self.assert_shows(False, simple_rule(), "lost", [("edit", ""), ("upgrade", "", None, None)])

    def test_contents_of_other_kinds(self):
        for value in any_values():
            if value is not None and not isinstance(value, str):
                self.assert_shows(False, simple_rule(), "lost", [("edit", value), TAKEN])
                self.assert_shows(False, simple_rule(), "lost", [("edit", "x"), ("upgrade", value, None, None)])

    def test_edits_change_something(self):
        lost = [("edit", "x"), TAKEN]
        self.assert_shows(False, simple_rule(), "lost", [("edit", None)] + lost)
        self.assert_shows(False, simple_rule(), "lost", [("edit", "x")] + lost)
        self.assert_shows(True, simple_rule(), "lost", [("edit", "z")] + lost)
        self.assert_shows(True, simple_rule(), "lost", [("edit", "x"), ("edit", None)] + lost)
        self.assert_shows(False, simple_rule(), "lost", [("upgrade", "x", None, None)] + lost)

    def test_no_edits_amid_an_upgrade(self):
        path = [("upgrade", "x", None, 0), ("edit", "z"), TAKEN]
        self.assert_shows(False, simple_rule(), "lost", path, stops=True)
        path.insert(1, ("upgrade", "y", None, None))
        self.assert_shows(True, simple_rule(), "lost", path[:-1] + [("upgrade", "x", None, None)], stops=True)

    def test_the_empty_list(self):
        for rule, trouble, stops in itertools.product(sample_rules(), TROUBLES, (False, True)):
            self.assert_shows(False, rule, trouble, [], stops=stops)

    def test_the_last_deed_has_the_trouble(self):
        stale = ("upgrade", "x", None, None)
        rule = rule_that(())
        self.assert_shows(True, rule, "stale", [stale])
        self.assert_shows(True, rule, "stale", [stale, stale])
        self.assert_shows(False, rule, "stale", [stale, ("upgrade", None, None, None)])
        self.assert_shows(False, rule, "stale", [stale, ("edit", "x")])
        self.assert_shows(False, simple_rule(), "lost", [("edit", "x"), TAKEN, TAKEN])

    def test_answers(self):
        asks = rule_that((), keep=())
        for answer in ("take", "keep"):
            self.assert_shows(True, asks, "needless", [("upgrade", "x", answer, None)])
            self.assert_shows(False, simple_rule(), "lost", [("edit", "x"), ("upgrade", "y", answer, None)])
        for value in any_values():
            if value not in ("take", "keep"):
                self.assert_shows(False, asks, "needless", [("upgrade", "x", value, None)])
            if value is not None:
                self.assert_shows(False, simple_rule(), "lost", [("edit", "x"), ("upgrade", "y", value, None)])

    def test_stops(self):
        rule = rule_that((("here", "nothing"), ("here", "new")))
        path = [("edit", "x"), ("upgrade", "y", None, 1)]
        self.assert_shows(True, rule, "lost", path, stops=True)
        self.assert_shows(False, rule, "lost", path, stops=False)
        self.assert_shows(False, rule, "lost", path)
        self.assert_shows(False, rule, "lost", path[:1] + [("upgrade", "y", None, 0)], stops=True)
        for value in any_values() + [1.0, "1"]:
            worth = value is None or (value == 1 and type(value) is int)
            self.assert_shows(worth, rule, "lost", path[:1] + [("upgrade", "y", None, value)], stops=True)
            self.assert_shows(value is None, rule, "lost", path[:1] + [("upgrade", "y", None, value)])

    def test_stops_of_the_list_that_is_done(self):
        rule = rule_that((("here", "here"),) * 3, keep=(("here", "here"),))
        for answer, size in (("take", 3), ("keep", 1)):
            for stop in range(-1, 5):
                self.assert_shows(0 <= stop < size, rule, "needless", [("upgrade", "x", answer, stop)], stops=True)
        for stop in range(3):
            self.assert_shows(False, rule_that((), keep=()), "needless", [("upgrade", "x", "take", stop)], stops=True)

    def test_renamings_need_elder(self):
        for rule, worth in ((rule_that((), registers=["elder"]), True), (rule_that((), registers=["beside"]), False)):
            self.assert_shows(worth, rule, "stale", [("renamed", "x", None, None)])
        rule = rule_that((("here", "new"),), registers=["elder"])
        self.assert_shows(True, rule, "left", [("upgrade", "x", None, None), ("renamed", "x", None, None)])

    def test_deeds_of_other_shapes(self):
        right = [("edit", "x"), TAKEN]
        wrong = [["edit", "x"], ("edit",), ("edit", "x", None), ("edit", "x", None, None), ("strike", "x"), ("x", "edit"),
                 ("upgrade", "x"), "edit", None, (), ("cross",), ("renamed", "x", None, None)]
        for value in wrong + any_values():
            self.assert_shows(False, simple_rule(), "lost", [value] + right)
            self.assert_shows(False, simple_rule(), "lost", [value, TAKEN])
        wrong = [list(TAKEN), TAKEN[:3], (*TAKEN, None), ("edit", "y", None, None), ("Upgrade", "y", None, None),
                 ("upgrade", "y"), ("y", "upgrade", None, None), (None, "y", None, None), [TAKEN], (TAKEN,)]
        for value in wrong + any_values():
            self.assert_shows(False, simple_rule(), "lost", [("edit", "x"), value])
            self.assert_shows(False, simple_rule(), "lost", right + [value])
            self.assert_shows(False, simple_rule(), "lost", [("edit", "x"), (value, "y", None, None)])
            self.assert_shows(False, simple_rule(), "lost", [(value, "x"), TAKEN])

    def test_other_values_than_lists(self):
        for value in any_values() + [(("edit", "x"), TAKEN), {("edit", "x"): TAKEN}, TAKEN, "edit"]:
            for rule, stops in itertools.product((simple_rule(), asking_rule()), (False, True)):
                self.assert_shows(False, rule, "lost", value, stops=stops)

    def test_deeds_changed_by_chance(self):
        chance = random.Random(17)
        rules = [simple_rule(), sometimes_asks(), moving_rule(), rule_that((("here", "new"),) * 2, keep=())]
        told = {False: 0, True: 0}
        for rule, _ in itertools.product(rules, range(200)):
            path = self.path_by_chance(chance, rule)
            if chance.random() < 0.6:
                at = chance.randrange(len(path))
                path[at] = self.changed_by_chance(chance, path[at])
            for stops in (False, True):
                troubles = troubles_along(File(rule), path, stops) or []
                for trouble in TROUBLES:
                    self.assert_shows(trouble in troubles, rule, trouble, path, stops=stops)
                    told[trouble in troubles] += 1
        self.assertGreater(min(told.values()), 100)

    def path_by_chance(self, chance, rule):
        """A path of a rule, mostly with some stops."""
        file, path = File(rule), []
        for _ in range(chance.randint(1, 4)):
            stops = chance.random() < 0.4
            deed, _, file = chance.choice(deeds_by_hand(file, contents_to_try(file), stops))
            path.append(deed)
        return path

    def changed_by_chance(self, chance, deed):
        """A deed with one thing changed."""
        parts = list(deed)
        other = [None, "take", "keep", "edit", "upgrade", "renamed", "another", "", 0, 1, 2, True, False, [], ()]
        parts[chance.randrange(len(parts))] = chance.choice(other)
        return chance.choice([tuple(parts), tuple(parts), tuple(parts), parts, deed[:-1], (*deed, None)])

    def test_nothing_is_changed(self):
        path = [("edit", "x"), TAKEN]
        self.assertIs(shows(rule=simple_rule(), trouble="lost", value=path, stops=False), True)
        self.assertEqual(path, [("edit", "x"), TAKEN])


class Refusals(unittest.TestCase):
    def test_bad_troubles_first(self):
        others = any_values() + ["Lost", "lost ", "nothing", "stale, left", ["lost"], ("lost",), {"lost": 1}, 1.0]
        for value in others:
            for call in (shortest, ahead):
                for what in (asking_rule(), File(asking_rule()), None, 1, "lost", []):
                    for stops in (False, True):
                        self.assert_bad(value, caught(call, what, value, stops=stops))
            for what, path in itertools.product((asking_rule(), None, []), ([], None, [("edit", "x")], "lost")):
                self.assert_bad(value, caught(shows, what, value, path))

    def assert_bad(self, value, error):
        self.assertIsInstance(error, BadTrouble)
        self.assertIs(error.value, value)

    def test_the_five_words(self):
        for trouble in TROUBLES:
            self.assertIsNone(caught(shortest, asking_rule(), trouble))
            self.assertIsNone(caught(ahead, File(asking_rule()), trouble))
            self.assertIsNone(caught(shows, asking_rule(), trouble, []))


class Deeds(unittest.TestCase):
    def test_the_helper_does_what_it_says(self):
        file = File(simple_rule())
        self.assertEqual([do(file, ("edit", "x")), do(file, TAKEN)], [[], ["lost"]])
        self.assertEqual(pattern_by_hand(file_with(simple_rule(), ((1, 2, 0), "free", True))),
                         ((1, 2, 0), "free", True))


if __name__ == "__main__":
    unittest.main()
