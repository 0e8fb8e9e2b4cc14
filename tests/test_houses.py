""""Stage 11" of the interface, points [1] and [5] to [8] for files in houses."""

import itertools
import random
import unittest

from helper import (Equal, any_values, asking_rule, beside_rule, caught, laid_again, moving_rule, picture, rule_of,
                    rule_that, simple_rule)
from stillmine import houses
from stillmine.errors import (BadAnswer, BadContent, BadName, BadStop, NoFile, NoPlace, StillAmid, Taken, TooFar,
                              Unanswered)
from stillmine.files import File
from stillmine.houses import House
from stillmine.rules import Rule

NEW = (("here", "new"),)
NO_NAMES = ("", "A", "a b", "conf1", "conf ", "abcdefghi", "\u00e9", "a\n", "_")
NAMES = ("a", "b", "c", "d", "e")


def keys_of_any_kind():
    """All sample values that a dict can have as keys."""
    keys = []
    for value in any_values():
        try:
            hash(value)
        except TypeError:
            continue
        keys.append(value)
    return keys


def snapshot(house):
    """All that can be read off a house."""
    return house.names, [picture(house.file(name)) for name in house.names]


def depth(house):
    """How many calls a house can take back."""
    return caught(house.fork().undo, 10 ** 6).count


class Model:
    """A house by hand: files alone, with the deeds that the document tells."""

    def __init__(self, rule):
        self.rule, self.files, self.past = rule, {}, []

    def lay(self, name, content):
        file = self.files[name].fork() if name in self.files else File(self.rule)
        file.edit(content)
        self.past.append(dict(self.files))
        self.files[name] = file

    def bring(self, edition, moved, answers, stop):
        old_names = {name: name for name in self.files if name not in moved.values()}
        old_names.update({name: None for name in edition if name not in old_names})
        old_names.update(moved)
        files, troubles = dict(self.files), {}
        for name in sorted(old_names):
            old = old_names[name]
            file = File(self.rule) if old is None else self.files[old].fork()
            word = "renamed" if name in moved else "upgrade"
            stopped = stop is not None and stop[0] == name
            told = getattr(file, word)(edition.get(name), answer=answers.get(name), stop=stop[1] if stopped else None)
            if told:
                troubles[name] = told
            files.pop(old, None)
            files[name] = file
            if stopped:
                break
        self.past.append(self.files)
        self.files = files
        return troubles

    def undo(self, number):
        for _ in range(number):
            self.files = self.past.pop()


class Houses(Equal):
    """What tests of houses ask."""

    def assert_as(self, house, model):
        """That a house has just the files of a model."""
        self.assertEqual(house.names, sorted(model.files))
        for name, file in model.files.items():
            self.assertEqual(house.file(name), file)

    def assert_refused(self, kind, worth, house, call, *values, **named):
        """That a call raises an error that keeps the very value, and changes nothing."""
        before, calls, twin = snapshot(house), depth(house), house.fork()
        error = caught(call, *values, **named)
        with self.subTest(values=values, **named):
            self.assertIs(type(error), kind)
            self.assertIs(list(vars(error).values())[0], worth)
            self.assertEqual((snapshot(house), depth(house)), (before, calls))
            self.assertEqual(house, twin)


def filled(rule=None):
    """A house with the files a, b, c, in which b is changed by a person."""
    house = House(rule or asking_rule())
    house.bring({"a": "1", "b": "1", "c": "1"})
    house.lay("b", "mine")
    return house


class Laying(Houses):
    def test_a_new_house(self):
        house = House(rule=simple_rule())
        self.assertEqual((house.names, depth(house)), ([], 0))
        self.assertEqual(house, House(simple_rule()))

    def test_an_edit(self):
        house, file = filled(), File(asking_rule())
        file.upgrade("1")
        self.assertEqual(house.file("a"), file)
        file.edit("mine")
        self.assertEqual(house.file("b"), file)
        self.assertIsNone(house.lay("b", None))
        file.edit(None)
        self.assertEqual(house.file("b"), file)
        self.assertEqual(house.file("b").change, (None,))

    def test_new_files(self):
        house = filled()
        self.assertIsNone(house.lay("x", "text"))
        self.assertIsNone(house.lay("empty", None))
        self.assertEqual(house.names, ["a", "b", "c", "empty", "x"])
        self.assertEqual(house.file("empty"), File(asking_rule()))
        self.assertEqual((house.file("x").here, house.file("x").change), ("text", ("text",)))

    def test_names_are_ascending(self):
        house = House(simple_rule())
        for name in ("c", "ab", "b", "abcdefgh", "a", "c"):
            house.lay(content="1", name=name)
        self.assertEqual(house.names, ["a", "ab", "abcdefgh", "b", "c"])

    def test_files_with_nothing_here_stay(self):
        house = filled(simple_rule())
        house.bring({})
        self.assertEqual((house.names, house.file("a").here), (["a", "b", "c"], None))
        house.lay("a", "x")
        house.lay("a", None)
        self.assertEqual(house.names, ["a", "b", "c"])

    def test_bad_names(self):
        for value in [*any_values(), *NO_NAMES]:
            if value not in ("a", "was", "here", "take", "keep", "elder"):
                house = filled()
                self.assert_refused(BadName, value, house, house.lay, value, "x")
                self.assert_refused(BadName, value, house, house.lay, value, 1)

    def test_bad_contents(self):
        for value in [*any_values(), "\t", "\u00e9"]:
            if value is not None and (not isinstance(value, str) or value in ("\t", "\u00e9")):
                house = filled()
                for name in ("a", "b", "x"):
                    self.assert_refused(BadContent, value, house, house.lay, name, value)
                house.bring({"a": "2", "b": "2"}, stop=("a", 0))
                self.assert_refused(BadContent, value, house, house.lay, "a", value)

    def test_amid_there_are_no_edits(self):
        house = filled()
        house.bring({"a": "2", "b": "2"}, stop=("a", 1))
        for content in ("2", "1", "x", None):
            self.assert_refused(StillAmid, content, house, house.lay, "a", content)
        self.assertIsNone(house.lay("b", "x"))

    def test_file_is_a_fork(self):
        house = filled()
        house.file("a").edit("x")
        house.file(name="b").upgrade("y", answer="take")
        self.assertEqual((house.file("a").here, house.file("b").here), ("1", "mine"))
        self.assertIsInstance(house.file("a"), File)

    def test_no_such_file(self):
        house = filled()
        for value in [*any_values(), *NO_NAMES, "x", "d", ["b"], ("c",)]:
            if value != "a":
                self.assert_refused(NoFile, value, house, house.file, value)


class Bringing(Houses):
    def test_all_files_are_upgraded(self):
        house = filled(simple_rule())
        self.assertEqual(house.bring({"a": "2", "d": "2"}), {"b": ["lost"]})
        self.assertEqual(house.names, ["a", "b", "c", "d"])
        self.assertEqual([house.file(name).here for name in "abcd"], ["2", None, None, "2"])
        self.assertEqual([house.file(name).last for name in "abcd"], ["2", None, None, "2"])

    def test_new_files_begin_as_new(self):
        house, file = filled(), File(asking_rule())
        house.bring({"a": "1", "b": "1", "c": "1", "d": "2"})
        file.upgrade("2")
        self.assertEqual(house.file("d"), file)

    def test_answers(self):
        for answer in ("take", "keep"):
            house, file = filled(), filled().file("b")
            self.assertEqual(house.bring({"a": "1", "b": "2", "c": "1"}, answers={"b": answer}), {})
            file.upgrade("2", answer=answer)
            self.assertEqual(house.file("b"), file)
        house = filled()
        answers = {"b": "take", "a": "keep", "x": "take"}
        house.bring({"a": "2", "b": "2", "c": "2"}, answers=answers)
        self.assertEqual([house.file(name).here for name in "abc"], ["2"] * 3)
        self.assertEqual(answers, {"b": "take", "a": "keep", "x": "take"})

    def test_moves(self):
        house, file = filled(moving_rule()), filled(moving_rule()).file("b")
        told = house.bring({"a": "1", "z": "2", "c": "1"}, moved={"z": "b"}, answers={"z": "keep"})
        self.assertEqual(file.renamed("2", answer="keep"), told.get("z", []))
        self.assertEqual((house.names, house.file("z")), (["a", "c", "z"], file))
        self.assertIsInstance(caught(house.file, "b"), NoFile)

    def test_an_old_name_may_be_brought_later(self):
        house = filled(moving_rule())
        house.bring({"a": "1", "x": "1", "b": "1"}, moved={"x": "c"}, answers={"b": "take"})
        self.assertEqual(house.names, ["a", "b", "x"])
        house.bring({"a": "1", "x": "1", "b": "1", "c": "3"})
        self.assertEqual((house.file("c").here, house.file("x").here), ("3", "1"))

    def test_several_moves_in_the_sequence_of_new_names(self):
        house = filled(moving_rule())
        house.bring({"y": "1", "x": "1"}, moved={"y": "a", "x": "c"}, stop=("x", 0), answers={"b": "take"})
        self.assertEqual(house.names, ["a", "b", "x"])
        self.assertEqual((house.file("a").here, house.file("x").amid), ("1", True))

    def test_troubles_in_the_sequence_of_names(self):
        house = House(simple_rule())
        for name in ("c", "a", "d", "b"):
            house.lay(name, "mine")
        told = house.bring({"d": "x", "b": "mine", "a": "y", "c": "z"})
        self.assertEqual(list(told.items()), [("a", ["lost"]), ("c", ["lost"]), ("d", ["lost"])])
        house = House(rule_of(["elder"], ":elder<new here<nothing"))
        house.lay("a", "mine")
        self.assertEqual(house.bring({"a": "x", "b": "y"}), {"a": ["lost", "stale", "left"], "b": ["stale", "left"]})

    def test_stops(self):
        house = filled()
        told = house.bring({"a": "2", "b": "2", "c": "2", "bb": "2"}, stop=("b", 1), answers={"b": "take", "c": 7})
        self.assertEqual((told, house.names), ({}, ["a", "b", "c"]))
        self.assertEqual([house.file(name).amid for name in "abc"], [False, True, False])
        self.assertEqual([house.file(name).here for name in "abc"], ["2", "2", "1"])
        self.assertEqual(house.file("b")["was"], "1")
        house = filled()
        self.assertEqual(house.bring({"aa": "2", "b": "1"}, stop=("aa", 0)), {})
        self.assertEqual(house.names, ["a", "aa", "b", "c"])
        self.assertEqual((house.file("aa").amid, house.file("a").here), (True, None))

    def test_stops_with_moves(self):
        for stop, names, here in (("a", ["a", "b", "c"], "1"), ("b", ["a", "b", "c"], "1"),
                                  ("x", ["a", "b", "x"], None), ("z", ["a", "b", "x", "z"], "2")):
            house, answers = filled(moving_rule()), {"b": "keep"}
            house.bring({"a": "2", "x": "2", "z": "2"}, moved={"x": "c"}, answers=answers, stop=(stop, 0))
            self.assertEqual((house.names, house.file(names[2]).here), (names, here))
            self.assertEqual([name for name in names if house.file(name).amid], [stop])

    def test_amid_the_next_edition_is_brought(self):
        house = filled()
        house.bring({"a": "2", "b": "1", "c": "1"}, stop=("a", 1))
        self.assertIsInstance(caught(house.bring, {"a": "3"}), Unanswered)
        self.assertEqual(house.bring({"a": "3", "b": "1", "c": "1"}, answers={"a": "take"}), {"a": ["needless"]})
        self.assertIs(house.file("a").amid, False)

    def test_arguments_stay_as_they_were(self):
        house = filled(moving_rule())
        edition, moved, answers = {"z": "2", "a": "2"}, {"z": "b"}, {"z": "take", "c": "keep"}
        house.bring(edition, moved=moved, answers=answers, stop=("z", 1))
        self.assertEqual((edition, moved, answers), ({"z": "2", "a": "2"}, {"z": "b"}, {"z": "take", "c": "keep"}))
        self.assertEqual((list(edition), list(answers)), (["z", "a"], ["z", "c"]))
        before = snapshot(house)
        for given in (edition, moved, answers):
            given.clear()
        self.assertEqual(snapshot(house), before)

    def test_what_is_told_is_new(self):
        house = House(simple_rule())
        house.lay("a", "mine")
        house.names.append("x")
        house.names.clear()
        told = house.bring({"a": "x"})
        told["a"].clear()
        told.clear()
        self.assertEqual((house.names, house.file("a").here), (["a"], "x"))
        house.undo(1)
        self.assertEqual(house.bring({"a": "x"}), {"a": ["lost"]})

    def test_left_out_arguments(self):
        house, other = filled(), filled()
        house.bring(edition={"a": "2", "b": "1", "c": "3"})
        other.bring({"a": "2", "b": "1", "c": "3"}, moved=None, answers=None, stop=None)
        self.assertEqual(house, other)
        other.undo(1)
        other.bring(stop=None, answers={}, moved={}, edition={"a": "2", "b": "1", "c": "3"})
        self.assertEqual(house, other)


class Refusals(Houses):
    def test_bad_names(self):
        for value in [*keys_of_any_kind(), *NO_NAMES]:
            if value not in ("a", "was", "here", "take", "keep", "elder"):
                house = filled(moving_rule())
                self.assert_refused(BadName, value, house, house.bring, {"a": "1", value: 1, "B": 2})
                self.assert_refused(BadName, value, house, house.bring, {"a": 1}, moved={"z": "?", value: "b", "Z": 1})

    def test_names_of_the_edition_come_ahead_of_those_of_moved(self):
        house = filled()
        self.assert_refused(BadName, "C", house, house.bring, {"a": 1, "C": "1", "D": "1"}, moved={"B": "a"})

    def test_bad_contents(self):
        for value in [*any_values(), "\t", "a\u00e9"]:
            if not isinstance(value, str) or value in ("\t", "a\u00e9"):
                house = filled()
                self.assert_refused(BadContent, value, house, house.bring, {"a": "1", "d": value, "b": 1},
                                    moved={"d": "nofile"}, stop=("none", 0), answers={"a": "x"})

    def test_files_that_cannot_be_moved(self):
        house = filled()
        for value in any_values() + [*NO_NAMES, "x", "z"]:
            if value != "a":
                self.assert_refused(NoFile, value, house, house.bring, {"z": "1", "y": "1"},
                                    moved={"y": "a", "z": value})
        self.assert_refused(NoFile, "b", house, house.bring, {"z": "1", "b": "1"}, moved={"z": "b"})
        self.assert_refused(NoFile, "a", house, house.bring, {"y": "1", "z": "1"}, moved={"y": "a", "z": "a"})
        self.assert_refused(NoFile, "x", house, house.bring, {"z": "1"}, moved={"z": "x", "y": "b"}, stop=("none", 0))

    def test_files_that_cannot_be_stopped(self):
        house = filled(moving_rule())
        for name in ("x", "none", "A", "", "b"):
            self.assert_refused(NoFile, name, house, house.bring, {"a": "1", "z": "1"}, moved={"z": "b"},
                                stop=(name, "?"))
        for value in any_values():
            if value != "a":
                self.assert_refused(NoFile, value, house, house.bring, {"z": "1"}, stop=(value, 0))
        self.assert_refused(NoFile, "x", house, house.bring, {"a": "1"}, moved={"b": "c"}, stop=("x", 0))
        for name in ("a", "c", "z", "d"):
            answers = {"a": "take", "c": "take", "d": "take", "z": "take"}
            self.assertIsNone(caught(house.fork().bring, {"z": "1", "d": "2"}, moved={"z": "b"}, answers=answers,
                                     stop=(name, 0)))

    def test_names_that_are_taken(self):
        house = filled()
        self.assert_refused(Taken, "c", house, house.bring, {"z": "1", "c": "1"}, moved={"z": "a", "c": "b"})
        self.assert_refused(Taken, "y", house, house.bring, {"z": "1", "x": "1"}, moved={"z": "a", "y": "b", "x": "c"})
        self.assert_refused(Taken, "c", house, house.bring, {"z": "1"}, moved={"c": "b"}, answers={"z": 1})
        self.assert_refused(Taken, "b", house, house.bring, {"a": "1", "b": "1"}, moved={"b": "c"}, stop=("b", True))
        self.assert_refused(Taken, "y", house, house.bring, {"z": "1"}, moved={"y": "b"}, stop=("y", True))

    def test_a_rule_without_elder(self):
        for rule in (asking_rule(), simple_rule(), beside_rule()):
            house = filled(rule)
            error = caught(house.bring, {"z": "1"}, moved={"z": "a"}, answers={"z": 1}, stop=("z", True))
            self.assertEqual((type(error), error.place), (NoPlace, "elder"))
            self.assertEqual(snapshot(house), snapshot(filled(rule)))
            self.assertIsNone(caught(house.bring, {"b": "mine", "a": "1", "c": "1"}, moved={}))

    def test_answers_that_are_none(self):
        for value in any_values() + ["Take", ("take",)]:
            if value not in ("take", "keep", None):
                for name in "abcd":
                    house = filled()
                    self.assert_refused(BadAnswer, value, house, house.bring, {"a": "2", "b": "2", "d": "1"},
                                        answers={"b": "take", "c": "keep", name: value})
        house = filled()
        self.assert_refused(BadAnswer, 1, house, house.bring, {"a": "2"}, answers={"a": 1}, stop=("a", True))

    def test_questions_without_an_answer(self):
        house = filled()
        for answers in (None, {}, {"a": "take"}, {"b": None}):
            error = caught(house.bring, {"a": "2", "b": "2", "c": "2"}, answers=answers)
            self.assertEqual((type(error), error.position), (Unanswered, 3))
            self.assertEqual((snapshot(house), depth(house)), (snapshot(filled()), 2))
        self.assertIsInstance(caught(house.bring, {"b": "2"}, stop=("b", True)), Unanswered)

    def test_numbers_that_are_none(self):
        house = filled()
        for value in any_values() + [3, 10 ** 9, 1.0]:
            if value is not None and not (type(value) is int and 0 <= value < 2):
                for name in "abc":
                    self.assert_refused(BadStop, value, house, house.bring, {"a": "2", "b": "2", "c": "2"},
                                        answers={"b": "take"}, stop=(name, value))
        self.assert_refused(BadStop, 1, house, house.bring, {"b": "2"}, answers={"b": "keep"}, stop=("b", 1))
        self.assert_refused(BadStop, 0, house, house.bring, {"a": "1", "b": "1"}, stop=("b", 0))

    def test_the_first_file_is_told_first(self):
        house = filled()
        self.assert_refused(BadAnswer, 8, house, house.bring, {"a": "2", "b": "2"}, answers={"b": 7, "a": 8})
        error = caught(house.bring, {"a": "2", "b": "2"}, answers={"c": 7})
        self.assertEqual((type(error), error.position), (Unanswered, 3))
        self.assert_refused(BadStop, 9, house, house.bring, {"a": "2", "b": "2"}, answers={"b": 7}, stop=("a", 9))
        # What is behind the stop is not reached.
        self.assertIsNone(caught(house.bring, {"a": "2", "b": "2"}, answers={"b": 7}, stop=("a", 0)))

    def test_two_things_wrong_at_once(self):
        wrong = [
            (BadName, {"edition": {"A": "1"}}),
            (BadName, {"moved": {"B": "a"}}),
            (BadContent, {"edition": {"d": None}}),
            (NoFile, {"moved": {"d": "nofile"}}),
            (NoFile, {"stop": ("none", 0)}),
            (Taken, {"moved": {"c": "b"}}),
            (NoPlace, {"moved": {"e": "a"}}),
            (BadAnswer, {"answers": {"aa": 1}}),
            (Unanswered, {"answers": {"c": None}}),
        ]
        for (first, one), (_, other) in itertools.combinations(wrong, 2):
            house = filled()
            house.lay("c", "mine")
            before = snapshot(house)
            named = {"edition": {"aa": "1", "c": "2", "e": "1"}, "moved": {}, "answers": {"c": "take", "b": "take"},
                     "stop": None}
            for part in (other, one):
                for name, value in part.items():
                    named[name] = value if name == "stop" else {**named[name], **value}
            error = caught(house.bring, **named)
            self.assertEqual((type(error), one, other), (first, one, other))
            self.assertEqual((snapshot(house), depth(house)), (before, 3))

    def test_nothing_is_changed_for_files_ahead(self):
        house = House(moving_rule())
        house.bring({"a": "1", "b": "1", "m": "1", "z": "1"})
        house.lay("z", "mine")
        before, twin = snapshot(house), house.fork()
        edition = {"a": "2", "z": "2", "n": "2", "c": "2"}
        for named in ({}, {"answers": {"z": "x"}}, {"stop": ("z", 5), "answers": {"z": "take"}}):
            self.assertIsNotNone(caught(house.bring, edition, moved={"n": "m"}, **named))
            self.assertEqual((snapshot(house), depth(house), house), (before, 2, twin))


class Undoing(Houses):
    def test_one_by_one_and_many_at_once(self):
        house, seen = House(asking_rule()), []
        for call in range(6):
            seen.append((snapshot(house), house.fork()))
            if call % 2:
                house.lay("b", str(call))
            else:
                house.bring({"a": str(call), "b": "0"}, answers={"b": "keep"})
        for number in range(7):
            other = house.fork()
            self.assertIsNone(other.undo(number))
            worth = (seen + [(snapshot(house), house)])[6 - number]
            self.assertEqual((snapshot(other), other, depth(other)), (*worth, 6 - number))
            one_by_one = house.fork()
            for _ in range(number):
                one_by_one.undo(1)
            self.assertEqual(one_by_one, other)

    def test_a_lay_that_changed_nothing_counts(self):
        house = filled()
        house.lay("a", "1")
        self.assertEqual(depth(house), 3)
        house.undo(1)
        self.assertEqual((depth(house), house), (2, filled()))
        house.lay("new", None)
        house.undo(number=1)
        self.assertEqual(house.names, ["a", "b", "c"])
        house.bring({"a": "1", "b": "1", "c": "1"})
        house.undo(0)
        self.assertEqual(depth(house), 3)

    def test_calls_that_raised_an_error_do_not_count(self):
        house = filled()
        for call, values in ((house.lay, ("A", "x")), (house.lay, ("a", 1)), (house.bring, ({"b": "2"},)),
                             (house.file, ("x",)), (house.undo, (3,))):
            self.assertIsNotNone(caught(call, *values))
            self.assertEqual(depth(house), 2)
        house.undo(1)
        self.assertEqual(house.file("b").here, "1")

    def test_moves_are_taken_back(self):
        house = filled(moving_rule())
        before = snapshot(house)
        house.bring({"z": "2"}, moved={"z": "b"}, answers={"z": "take"}, stop=("z", 1))
        self.assertEqual(house.names, ["a", "c", "z"])
        house.undo(1)
        self.assertEqual(snapshot(house), before)
        self.assertIs(house.file("b").amid, False)

    def test_too_far(self):
        house = filled()
        for number in (3, 4, 10 ** 59):
            error = caught(house.undo, number)
            self.assertEqual((type(error), error.count), (TooFar, 2))
            self.assertEqual(house, filled())
        house.undo(2)
        self.assertEqual((house.names, caught(house.undo, 1).count), ([], 0))
        self.assertIsNone(caught(house.undo, 0))

    def test_again_behind_it(self):
        house = filled()
        house.undo(1)
        house.lay("b", "other")
        self.assertEqual((house.file("b").here, depth(house)), ("other", 2))
        house.undo(2)
        self.assertEqual(house.names, [])

    def test_forks_go_their_own_way(self):
        house = filled()
        other = house.fork()
        self.assertEqual((house == other, depth(other)), (True, 2))
        other.lay("a", "x")
        other.bring({"a": "1", "b": "1", "d": "4"})
        self.assertEqual((house, depth(house), house.names), (filled(), 2, ["a", "b", "c"]))
        house.undo(2)
        self.assertEqual((house.names, depth(other), other.names), ([], 4, ["a", "b", "c", "d"]))
        other.undo(4)
        self.assertEqual(house, other)


class Equality(Houses):
    def test_that_came_there_otherwise(self):
        house, other = House(asking_rule()), House(asking_rule())
        house.bring({"a": "1", "b": "1"})
        house.lay("a", "x")
        house.lay("a", "1")
        other.bring({"b": "1"})
        self.assert_equal_is(house, other, False)
        other.bring({"b": "1", "a": "1"})
        self.assert_equal_is(house, other, True)
        self.assertNotEqual(depth(house), depth(other))
        self.assertEqual(house.file("a"), laid_again(other.file("a")))

    def test_what_differs(self):
        for change in (lambda house: house.lay("a", "x"), lambda house: house.lay("d", None),
                       lambda house: house.bring({"a": "1", "b": "1", "c": "1"}, stop=("a", 0)),
                       lambda house: house.undo(1), lambda house: house.bring({"b": "mine"})):
            house = filled()
            change(house)
            self.assert_equal_is(house, filled(), False)

    def test_other_rules(self):
        self.assert_equal_is(House(asking_rule()), House(simple_rule()), False)
        self.assert_equal_is(House(asking_rule()), House(asking_rule()), True)
        self.assert_equal_is(House(Rule(["x"], [((), NEW)])), House(Rule(["y"], [((), NEW)])), False)

    def test_the_same_files_under_other_names(self):
        house, other = House(simple_rule()), House(simple_rule())
        house.lay("a", "1")
        other.lay("b", "1")
        self.assert_equal_is(house, other, False)

    def test_other_values(self):
        for house in (House(simple_rule()), filled()):
            for value in any_values() + [house.file("a") if house.names else None, {}, house.names]:
                self.assert_equal_is(house, value, False)


class Chance(Houses):
    def test_as_files_alone(self):
        chance = random.Random(34)
        told = []
        for rule in [moving_rule(), asking_rule(), rule_that(NEW, registers=["elder"]), beside_rule()] * 12:
            house, model = House(rule), Model(rule)
            for _ in range(12):
                told.append(self.do_by_chance(chance, house, model))
                self.assert_as(house, model)
                self.assertEqual(depth(house), len(model.past))
        self.assertLessEqual({"lay", "undo", "moved", "stopped", "troubles"}, set(told))
        self.assertLessEqual({"StillAmid", "Unanswered", "BadStop"}, set(told))

    def do_by_chance(self, chance, house, model):
        """Do a thing with a house and a model; return a word for what was done."""
        kind = chance.random()
        if kind < 0.35:
            values = chance.choice(NAMES), chance.choice([None, "1", "2", "3"])
            return self.do_both(house.lay, model.lay, values) or "lay"
        if kind < 0.45:
            number = chance.randint(0, min(3, len(model.past)))
            return self.do_both(house.undo, model.undo, (number,)) or "undo"
        edition = {name: chance.choice("123") for name in chance.sample(NAMES, chance.randint(0, 4))}
        moved = {}
        if "elder" in house.file(house.names[0]).rule.registers if house.names else False:
            free = [name for name in edition if name not in house.names]
            old = [name for name in house.names if name not in edition]
            moved = dict(zip(free, chance.sample(old, min(len(old), chance.randint(0, 2)))))
        names = sorted({*edition, *house.names} - set(moved.values()))
        answers = {name: chance.choice(["take", "keep"]) for name in names if chance.random() < 0.9}
        stop = (chance.choice(names), chance.randint(0, 2)) if names and chance.random() < 0.4 else None

        def brought(edition, moved, answers, stop):
            return house.bring(edition, moved=moved, answers=answers, stop=stop)

        word = self.do_both(brought, model.bring, (edition, moved, answers, stop))
        return word or ("moved" if moved and not stop else "stopped" if stop else "bring")

    def do_both(self, one, other, values):
        """Do the same twice; return the name of the error, "troubles" if there are some, or None."""
        results = []
        for call in (one, other):
            try:
                results.append(call(*values))
            except ValueError as error:
                results.append((type(error).__name__, vars(error)))
        self.assertEqual(results[0], results[1])
        if isinstance(results[0], tuple):
            return results[0][0]
        return "troubles" if results[0] else None

    def test_in_the_body_of_the_class(self):
        self.assertIsInstance(vars(House)["names"], property)
        for name in ("__init__", "__eq__", "file", "lay", "bring", "undo", "fork"):
            self.assertTrue(callable(vars(House)[name]))
        self.assertEqual(House.__module__, houses.__name__)


if __name__ == "__main__":
    unittest.main()
