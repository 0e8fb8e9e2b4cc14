"""Point [1] over the whole package: arguments by their names, in any sequence, left out, and not changed."""

import itertools
import unittest

from helper import asking_rule, moving_rule, picture, rule_that, simple_rule
from stillmine import (alike, bridges, errors, fewest, files, houses, notes, patterns, rules, stops, tables, texts,
                       troubles, ways)

PATH = [("edit", "x"), ("upgrade", "y", None, None)]
LINES = list(asking_rule().lines)


def file_with_change():
    """A file of the moving rule that a person changed."""
    file = files.File(moving_rule())
    file.upgrade("a")
    file.edit("b")
    return file


def house_with_change():
    """A house of the moving rule with two files, one of them changed by a person."""
    house = houses.House(moving_rule())
    house.bring({"a": "1", "b": "1"})
    house.lay("b", "mine")
    return house


def calls():
    """Tuples (function, arguments by name in their sequence) for all functions, made anew."""
    bridge = {"was": "elder"}
    return [
        (rules.Rule, {"registers": ["was"], "lines": LINES}),
        (asking_rule().asks, {"position": 3}),
        (files.File, {"rule": asking_rule()}),
        (files.standing, {"rule": asking_rule(), "contents": ["a", "b"], "last": "c", "mark": "own", "mine": "d",
                          "amid": True}),
        (patterns.pattern_of, {"file": file_with_change()}),
        (patterns.is_pattern, {"rule": asking_rule(), "value": ((0, 0, 0, 0), "none", False)}),
        (patterns.steps_from, {"rule": asking_rule(), "pattern": ((0, 0, 0, 0), "none", False), "stops": True}),
        (tables.table, {"rule": asking_rule(), "stops": True}),
        (tables.is_closed, {"rule": asking_rule(), "value": tables.table(asking_rule()), "stops": True}),
        (troubles.shortest, {"rule": asking_rule(), "trouble": "needless", "stops": True}),
        (troubles.ahead, {"file": file_with_change(), "trouble": "needless", "stops": True}),
        (troubles.shows, {"rule": simple_rule(), "trouble": "lost", "value": list(PATH), "stops": True}),
        (alike.parting, {"first": asking_rule(), "second": simple_rule()}),
        (alike.alike, {"first": asking_rule(), "second": asking_rule()}),
        (ways.hanging, {"rule": asking_rule(), "answer": "keep"}),
        (notes.without, {"rule": asking_rule(), "names": ["was"]}),
        (notes.enough, {"rule": asking_rule()}),
        (stops.harmful, {"rule": asking_rule(), "trouble": "needless"}),
        (stops.closing, {"rule": asking_rule(), "trouble": "needless"}),
        (stops.shown, {"rule": asking_rule(), "trouble": "needless", "points": [(0, "steps", 1)]}),
        (fewest.fewest, {"rule": asking_rule(), "trouble": "needless", "stops": True}),
        (houses.House, {"rule": asking_rule()}),
        (texts.rule_text, {"rule": asking_rule()}),
        (texts.read_rule, {"text": texts.rule_text(asking_rule())}),
        (bridges.crossing, {"first": moving_rule(), "second": asking_rule(), "bridge": bridge, "trouble": "lost",
                            "stops": True}),
        (bridges.bridges, {"first": moving_rule(), "second": asking_rule(), "stops": True}),
    ]


def methods():
    """Tuples (maker of an object, method, arguments by name, what can be read off the object)."""
    def seen(house):
        return house.names, [picture(house.file(name)) for name in house.names]

    return [
        (file_with_change, "edit", {"content": "x"}, picture),
        (file_with_change, "upgrade", {"content": "x", "answer": "take", "stop": 1}, picture),
        (file_with_change, "renamed", {"content": "x", "answer": "keep", "stop": 0}, picture),
        (house_with_change, "lay", {"name": "a", "content": "x"}, seen),
        (house_with_change, "file", {"name": "a"}, seen),
        (house_with_change, "undo", {"number": 1}, seen),
        (house_with_change, "bring", {"edition": {"z": "2", "c": "3"}, "moved": {"z": "b"}, "answers": {"z": "take"},
                                      "stop": ("z", 1)}, seen),
    ]


POSITIONAL = {"standing": 2, "steps_from": 2, "table": 1, "is_closed": 2, "shortest": 2, "ahead": 2, "shows": 3,
              "fewest": 2, "crossing": 4, "bridges": 2, "upgrade": 1, "renamed": 1, "bring": 1}


def split(name, arguments):
    """The arguments that may be given by place, a list, and the others by name, a dict."""
    size = POSITIONAL.get(name, len(arguments))
    return list(arguments.values())[:size], dict(list(arguments.items())[size:])


def sequences(arguments):
    """Dicts with the same arguments in other sequences."""
    return [dict(each) for each in itertools.islice(itertools.permutations(arguments.items()), 24)] + \
        [dict(reversed(arguments.items()))]


class Arguments(unittest.TestCase):
    def test_functions(self):
        for number, (function, arguments) in enumerate(calls()):
            with self.subTest(function.__name__):
                by_place, by_name = split(function.__name__, arguments)
                worth = function(*by_place, **by_name)
                for each in sequences(arguments):
                    self.assertEqual(function(**each), worth)
                self.assertEqual(arguments, calls()[number][1])

    def test_methods(self):
        for number, (make, name, arguments, seen) in enumerate(methods()):
            with self.subTest(name):
                one = make()
                by_place, by_name = split(name, arguments)
                worth = getattr(one, name)(*by_place, **by_name)
                for each in sequences(arguments):
                    other = make()
                    self.assertEqual(getattr(other, name)(**each), worth)
                    self.assertEqual((seen(other), other), (seen(one), one))
                self.assertEqual(arguments, methods()[number][2])

    def test_crossed(self):
        bridge, file = {"was": "elder"}, file_with_change()
        made, told = bridges.crossed(file, asking_rule(), bridge)
        for each in sequences({"file": file, "rule": asking_rule(), "bridge": bridge}):
            self.assertEqual(bridges.crossed(**each), (made, told))
        self.assertEqual((bridge, file), ({"was": "elder"}, file_with_change()))

    def test_what_stands_behind_the_star_is_not_given_by_place(self):
        for function, arguments in calls():
            by_place, by_name = split(function.__name__, arguments)
            if by_name:
                with self.subTest(function.__name__):
                    self.assertRaises(TypeError, function, *by_place, *by_name.values())
        for make, name, arguments, _ in methods():
            by_place, by_name = split(name, arguments)
            if by_name:
                with self.subTest(name):
                    self.assertRaises(TypeError, getattr(make(), name), *by_place, *by_name.values())

    def test_left_out(self):
        for function, arguments in calls():
            by_place, by_name = split(function.__name__, arguments)
            if "stops" in by_name:
                with self.subTest(function.__name__):
                    self.assertEqual(function(*by_place), function(*by_place, stops=False))
        silent = rule_that((("here", "new"),), registers=["elder"])
        file, other = files.File(silent), files.File(silent)
        for name in ("upgrade", "renamed"):
            for content in ("a", "b", "b"):
                self.assertEqual(getattr(file, name)(content), getattr(other, name)(content, stop=None, answer=None))
                self.assertEqual(file, other)
        house, other = houses.House(silent), houses.House(silent)
        for edition in ({"a": "1", "b": "2"}, {"b": "3"}):
            self.assertEqual(house.bring(edition), other.bring(edition, stop=None, answers=None, moved=None))
            self.assertEqual(house, other)
        self.assertEqual(files.standing(asking_rule(), [None, None]), files.File(asking_rule()))

    def test_errors(self):
        for name, argument in (("BadRegisters", "value"), ("BadLine", "position"), ("StillAmid", "content"),
                               ("NoPlace", "place"), ("NoFile", "name"), ("TooFar", "count"), ("BadText", "line")):
            self.assertEqual(vars(getattr(errors, name)(**{argument: [1]})), {argument: [1]})


class Objects(unittest.TestCase):
    """Objects copy what they are given."""

    def test_lists_and_dicts_that_are_changed_later(self):
        registers, lines, contents = ["was"], list(LINES), ["a", "b"]
        rule = rules.Rule(registers, lines)
        file = files.standing(rule, contents)
        for given in (registers, lines, contents):
            given.clear()
        self.assertEqual((rule, file), (asking_rule(), files.standing(asking_rule(), ["a", "b"])))

    def test_crossed_files_and_houses_go_their_own_way(self):
        file, bridge = file_with_change(), {"was": "elder"}
        made, _ = bridges.crossed(file, asking_rule(), bridge)
        bridge["was"] = "here"
        file.edit("x")
        self.assertEqual((made.here, made["was"]), ("b", None))


if __name__ == "__main__":
    unittest.main()
