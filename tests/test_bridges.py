"""Points [17] and [18] and "Stage 13" of the interface: files that cross to another rule, and safe bridges."""

import itertools
import random
import time
import unittest

from helper import (TROUBLES, any_values, asking_rule, beside_rule, caught, chance_rule, contents_of,
                    contents_to_try, deeds_by_hand, do, is_deed_by_hand, moving_rule, pattern_by_hand, picture,
                    rule_of, rule_that, sample_rules, simple_rule, wide_rule)
from stillmine.bridges import bridges, crossed, crossing
from stillmine.errors import BadBridge, BadTrouble
from stillmine.files import File, standing
from stillmine.rules import Rule
from stillmine.troubles import shortest

NEW = (("here", "new"),)
CROSS = ("cross",)


def renamed_rule():
    """The rule of the document's examples with another name for its note."""
    return Rule(["seen"], [((("here", "seen", True),), (("here", "new"), ("seen", "new"))),
                           ((("here", "new", True),), (("seen", "new"),)),
                           ((("new", "seen", True),), ()),
                           ((), (("here", "new"), ("seen", "new")), (("seen", "new"),))])


def empty_rule(*registers):
    """A rule with some registers that leaves all as it is."""
    return rule_that((), registers=registers)


def bridges_by_hand(first, second):
    """All bridges from a rule to another one, ascending."""
    sources = ["nothing", "here", *first.registers]
    return [dict(zip(second.registers, each)) for each in itertools.product(sources, repeat=len(second.registers))]


def crossed_by_hand(file, rule, bridge):
    """The file that a file becomes, and whether its change is lost."""
    contents, last, mark, change, amid = picture(file)
    held = {"here": file.here, "nothing": None, **{name: file[name] for name in file.rule.registers}}
    taken = {name: held[bridge[name]] for name in rule.registers}
    mine = change[0] if change else None
    spots = [file.here] + [taken[name] for name in rule.registers if name in ("beside", "elder")]
    lost = mark == "own" and mine is not None and mine not in spots
    made = standing(rule, [file.here, *taken.values()], last=last, mark="none" if lost else mark,
                    mine=None if lost else mine, amid=amid)
    return made, lost


def troubles_by_hand(files, stops):
    """A dict from troubles to the least numbers of deeds in which some files, told with a number each, have them."""
    levels, met, distances, count = {}, set(), {}, 0
    for file, number in files:
        levels.setdefault(number, []).append(file)
    while levels:
        for file in levels.pop(count, []):
            if pattern_by_hand(file) not in met:
                met.add(pattern_by_hand(file))
                for _, troubles, behind in deeds_by_hand(file, contents_to_try(file), stops):
                    levels.setdefault(count + 1, []).append(behind)
                    for trouble in troubles:
                        distances.setdefault(trouble, count + 1)
        count += 1
    return distances


def files_with_numbers(rule, stops):
    """A list of tuples (file, least number of deeds that lead to it), one for each pattern."""
    level, told, met, count = [File(rule)], [], {pattern_by_hand(File(rule))}, 0
    while level:
        told += [(file, count) for file in level]
        following = []
        for file in level:
            for _, _, behind in deeds_by_hand(file, contents_to_try(file), stops):
                if pattern_by_hand(behind) not in met:
                    met.add(pattern_by_hand(behind))
                    following.append(behind)
        level, count = following, count + 1
    return told


def crossings_by_hand(files, second, bridge, stops):
    """A dict from troubles to the lengths of shortest crossing paths of files that are told with numbers."""
    made = [(*crossed_by_hand(file, second, bridge), count + 1) for file, count in files]
    distances = troubles_by_hand([(file, count) for file, _, count in made], stops)
    for _, lost, count in made:
        if lost:
            distances["lost"] = min(count, distances.get("lost", count))
    return distances


class Crossed(unittest.TestCase):
    def assert_crossed(self, file, rule, bridge):
        """That a file becomes what it becomes by hand, and stays as it was."""
        before, given = picture(file), dict(bridge)
        told = crossed(file, rule, bridge)
        self.assertIsInstance(told, tuple)
        made, troubles = told
        other, lost = crossed_by_hand(file, rule, bridge)
        self.assertEqual((picture(made), troubles), (picture(other), ["lost"] if lost else []))
        self.assertEqual((type(made), type(troubles), made, made.rule), (File, list, other, rule))
        self.assertEqual((picture(file), bridge, list(bridge)), (before, given, list(given)))
        made.upgrade("brought", answer="take")
        self.assertEqual(picture(file), before)

    def test_each_kind_of_bridge_with_all_marks(self):
        first = empty_rule("x", "elder")
        for registers in ([], ["x"], ["beside"], ["elder", "y"], ["y", "beside", "elder"]):
            second = empty_rule(*registers)
            for bridge in bridges_by_hand(first, second):
                for mark, mine in itertools.product(("none", "own", "free"), ("h", "e", "w", None)):
                    for here, amid in itertools.product(("h", None), (False, True)):
                        file = standing(first, [here, "w", "e"], last="l", mark=mark, mine=mine, amid=amid)
                        self.assert_crossed(file, second, bridge)

    def test_by_hand(self):
        file = standing(empty_rule("x", "elder"), ["h", "w", "mine"], last="l", mark="own", mine="mine")
        made, troubles = crossed(file, empty_rule("a", "b", "c"), {"a": "here", "b": "x", "c": "nothing"})
        self.assertEqual((picture(made), troubles), ((["h", "h", "w", None], "l", "none", None, False), ["lost"]))
        made, troubles = crossed(file, empty_rule("beside"), {"beside": "elder"})
        self.assertEqual((picture(made), troubles), ((["h", "mine"], "l", "own", ("mine",), False), []))
        made, troubles = crossed(file, empty_rule("beside"), {"beside": "x"})
        self.assertEqual((picture(made), troubles), ((["h", "w"], "l", "none", None, False), ["lost"]))
        made, troubles = crossed(file, empty_rule("was"), {"was": "elder"})
        self.assertEqual((made.change, made["was"], troubles), (None, "mine", ["lost"]))

    def test_what_the_file_had(self):
        # Names that both rules have may be exchanged.
        file = standing(empty_rule("x", "y"), ["h", "1", "2"])
        made, _ = crossed(file, empty_rule("x", "y"), {"y": "x", "x": "y"})
        self.assertEqual([made.here, made["x"], made["y"]], ["h", "2", "1"])

    def test_nothing_as_mine_is_not_lost(self):
        for here in (None, "h"):
            file = standing(empty_rule("x"), [here, "w"], last="l", mark="own", mine=None)
            made, troubles = crossed(file, empty_rule("y"), {"y": "x"})
            self.assertEqual((made.change, made.mark, troubles), ((None,), "own", []))

    def test_mark_and_amid_go_over(self):
        for mark, amid in itertools.product(("none", "own", "free"), (False, True)):
            file = standing(simple_rule(), ["h"], last="l", mark=mark, mine="h", amid=amid)
            made, troubles = crossed(file, empty_rule("y"), {"y": "here"})
            self.assertEqual((made.mark, made.amid, made.last, troubles), (mark, amid, "l", []))

    def test_without_registers(self):
        file = standing(moving_rule(), ["h", "mine", "w"], mark="own", mine="mine")
        made, troubles = crossed(file, simple_rule(), {})
        self.assertEqual((picture(made), troubles), ((["h"], None, "none", None, False), ["lost"]))

    def test_what_is_told_is_new(self):
        file, bridge = File(asking_rule()), {"seen": "was"}
        made, troubles = crossed(bridge=bridge, rule=renamed_rule(), file=file)
        troubles.append("x")
        made.edit("x")
        again, told = crossed(file, renamed_rule(), bridge)
        self.assertEqual((told, again.here, file, bridge), ([], None, File(asking_rule()), {"seen": "was"}))


class BadBridges(unittest.TestCase):
    def assert_bad(self, first, second, value):
        """That a value is refused as a bridge, but behind a bad trouble."""
        for error in (caught(crossed, File(first), second, value), caught(crossing, first, second, value, "lost"),
                      caught(crossing, first, second, value, "left", stops=True)):
            self.assertIsInstance(error, BadBridge)
            self.assertIs(error.value, value)
        error = caught(crossing, first, second, value, "nothing")
        self.assertIsInstance(error, BadTrouble)

    def test_values_of_all_kinds(self):
        for value in any_values():
            self.assert_bad(asking_rule(), renamed_rule(), value)
            self.assert_bad(asking_rule(), asking_rule(), {"was": value} if value not in ("here", "was") else value)
            if value != {} or not isinstance(value, dict):
                self.assert_bad(asking_rule(), simple_rule(), value)
        self.assertEqual(crossed(File(asking_rule()), simple_rule(), {})[1], [])

    def test_keys(self):
        first, second = empty_rule("x", "elder"), empty_rule("y", "beside")
        for value in ({"y": "x"}, {"beside": "x"}, {}, {"y": "x", "beside": "x", "x": "x"}, {"y": "x", "elder": "x"},
                      {"y": "x", "beside": "x", 1: "x"}, {"y": "x", None: "x"}, {"y": "x", "here": "x"},
                      {"Y": "x", "beside": "x"}, {("y", "beside"): "x"}, [("y", "x"), ("beside", "x")],
                      ["y", "beside"]):
            self.assert_bad(first, second, value)
        for value in ({"y": "x", "beside": "elder"}, {"beside": "nothing", "y": "here"}):
            self.assertIsNone(caught(crossed, File(first), second, value))

    def test_values_for_registers(self):
        first, second = empty_rule("x", "elder"), empty_rule("y", "beside")
        for value in any_values() + ["new", "y", "beside", "Here", "x ", ["x"], ("x",), ["here"]]:
            if value not in ("here", "elder"):
                self.assert_bad(first, second, {"y": value, "beside": "x"})
                self.assert_bad(first, second, {"y": "here", "beside": value})
        for value in ("here", "nothing", "x", "elder"):
            self.assertIsNone(caught(crossed, File(first), second, {"y": value, "beside": value}))

    def test_bad_troubles_first(self):
        for value in any_values() + ["Lost", ["lost"], ("lost",), "cross"]:
            for bridge in ({"seen": "was"}, {}, None, value):
                for stops in (False, True):
                    error = caught(crossing, asking_rule(), renamed_rule(), bridge, value, stops=stops)
                    self.assertIsInstance(error, BadTrouble)
                    self.assertIs(error.value, value)
            self.assertIsInstance(caught(crossing, None, None, None, value), BadTrouble)


class Crossing(unittest.TestCase):
    def assert_path(self, first, second, bridge, trouble, path, stops):
        """That a path is a crossing path that shows a trouble, with a live file."""
        self.assertIsInstance(path, list)
        self.assertEqual(path.count(CROSS), 1)
        file, troubles, at = File(first), [], path.index(CROSS)
        for position, deed in enumerate(path):
            if position == at:
                file, troubles = crossed(file, second, bridge)
                continue
            self.assertTrue(is_deed_by_hand(file, deed, stops))
            self.assertTrue(deed[1] is None or isinstance(deed[1], str))
            troubles = do(file, deed)
        self.assertIn(trouble, troubles)
        self.assertEqual(file.rule, second)

    def assert_distances(self, first, second, bridge, stops, files=None):
        """That crossing tells for each trouble a path as long as by hand; return the lengths."""
        distances = crossings_by_hand(files or files_with_numbers(first, stops), second, bridge, stops)
        for trouble in TROUBLES:
            with self.subTest(first=first.lines, second=second.lines, bridge=bridge, trouble=trouble, stops=stops):
                path = crossing(first, second, bridge, trouble, stops=stops)
                self.assertEqual(None if path is None else len(path), distances.get(trouble))
                if path is not None:
                    self.assert_path(first, second, bridge, trouble, path, stops)
        return distances

    def test_as_a_search_by_hand(self):
        chance = random.Random(35)
        kinds = ([], ["x"], ["elder"], ["beside"], ["x", "y"], ["elder", "x"])
        lengths = set()
        for registers, others in itertools.product(kinds[:4], kinds):
            first, second = chance_rule(chance, registers), chance_rule(chance, others)
            for stops in (False, True):
                bridge = chance.choice(bridges_by_hand(first, second))
                lengths.update(self.assert_distances(first, second, bridge, stops).values())
        self.assertLessEqual({2, 3, 4}, lengths)

    def test_samples(self):
        for first, second in itertools.product((simple_rule(), asking_rule(), moving_rule()), repeat=2):
            files = files_with_numbers(first, False)
            for bridge in bridges_by_hand(first, second):
                self.assert_distances(first, second, bridge, False, files)

    def test_lost_by_the_crossing_itself(self):
        # A person's text is laid aside, and no register leads there.
        first = rule_of(["beside"], "here=nothing:here<new", ":beside<here here<new")
        for bridge, length in (({"x": "beside"}, 3), ({"x": "here"}, 3)):
            path = crossing(first, empty_rule("x"), bridge, "lost")
            self.assertEqual((len(path), path[-1]), (length, CROSS))
        self.assertEqual([deed[0] for deed in path], ["edit", "upgrade", "cross"])
        self.assertIsNone(crossing(first, empty_rule("beside"), {"beside": "beside"}, "lost"))
        self.assertEqual(crossing(first, empty_rule("beside"), {"beside": "here"}, "lost")[-1], CROSS)

    def test_troubles_ahead_of_the_crossing_do_not_count(self):
        self.assertEqual(len(shortest(simple_rule(), "lost")), 2)
        self.assertIsNone(crossing(simple_rule(), empty_rule(), {}, "lost"))
        self.assertIsNone(crossing(rule_that((), keep=()), simple_rule(), {}, "needless"))
        # A path on which there was a trouble goes on all the same.
        first, second = rule_of(["x"], ":x<new"), rule_of(["x"], "x=nothing:here<new", "x=here:here<new", ":")
        self.assertEqual(len(shortest(first, "stale")), 1)
        path = crossing(first, second, {"x": "x"}, "stale")
        self.assertEqual([deed[0] for deed in path], ["upgrade", "cross", "upgrade"])
        self.assert_path(first, second, {"x": "x"}, "stale", path, False)

    def test_the_empty_path_ahead(self):
        path = crossing(asking_rule(), rule_that(()), {}, "stale")
        self.assertEqual([deed[0] for deed in path], ["cross", "upgrade"])
        path = crossing(asking_rule(), simple_rule(), {}, "lost")
        self.assertEqual((len(path), path.count(CROSS)), (3, 1))

    def test_the_crossing_amid_an_upgrade(self):
        first, second = asking_rule(), renamed_rule()
        self.assertIsNone(crossing(first, second, {"seen": "was"}, "needless"))
        path = crossing(first, second, {"seen": "was"}, "needless", stops=True)
        self.assertEqual((len(path), path.count(CROSS)), (3, 1))
        self.assert_path(first, second, {"seen": "was"}, "needless", path, True)
        self.assertIsNotNone([deed for deed in path if deed != CROSS][0][3])

    def test_without_stops_there_are_none(self):
        for bridge in bridges_by_hand(asking_rule(), moving_rule()):
            for trouble in TROUBLES:
                for deed in crossing(asking_rule(), moving_rule(), bridge, trouble) or []:
                    self.assertIn(deed[3:], [(), (None,)])

    def test_lists_that_are_told_are_new(self):
        first, second, bridge = asking_rule(), renamed_rule(), {"seen": "here"}
        before = crossing(first, second, bridge, "lost")
        crossing(first, second, bridge, "lost").clear()
        again = crossing(stops=False, trouble="lost", bridge=bridge, second=second, first=first)
        self.assertEqual((again, bridge), (before, {"seen": "here"}))


class Bridges(unittest.TestCase):
    def safe_by_hand(self, first, second, stops):
        """The bridges with which no trouble comes that paths of the second rule do not show."""
        usual = set(troubles_by_hand([(File(second), 0)], stops))
        files = files_with_numbers(first, stops)
        return [bridge for bridge in bridges_by_hand(first, second)
                if set(crossings_by_hand(files, second, bridge, stops)) <= usual]

    def assert_bridges(self, first, second, stops):
        """That bridges tells what it tells by hand, with the keys in the sequence of the second rule; return it."""
        with self.subTest(first=first.lines, second=second.lines, stops=stops):
            told = bridges(first, second, stops=stops)
            self.assertIsInstance(told, list)
            self.assertEqual(told, self.safe_by_hand(first, second, stops))
            for bridge in told:
                self.assertEqual((type(bridge), sorted(bridge)), (dict, sorted(second.registers)))
            return told

    def test_samples(self):
        rules = [simple_rule(), asking_rule(), renamed_rule(), moving_rule()]
        for first, second in itertools.product(rules, repeat=2):
            for stops in (False, True):
                if len(first.registers) + len(second.registers) < 4 or not stops:
                    self.assert_bridges(first, second, stops)

    def test_chance_rules(self):
        chance = random.Random(36)
        counts = set()
        for registers, others in itertools.product(([], ["x"], ["elder"], ["beside"]), repeat=2):
            for stops in (False, True, False):
                first, second = chance_rule(chance, registers), chance_rule(chance, others)
                told = self.assert_bridges(first, second, stops)
                counts.add((len(told) > 0, len(told) < len(bridges_by_hand(first, second))))
        self.assertLessEqual({(True, True), (True, False)}, counts)

    def test_a_renamed_note(self):
        self.assertEqual(bridges(asking_rule(), renamed_rule()), [{"seen": "was"}])
        self.assertEqual(bridges(renamed_rule(), asking_rule()), [{"was": "seen"}])
        self.assertEqual(bridges(asking_rule(), asking_rule()), [{"was": "was"}])
        self.assertIn({"seen": "was"}, bridges(asking_rule(), renamed_rule(), stops=True))

    def test_all_in_their_sequence(self):
        sources = ["nothing", "here", "x", "elder"]
        told = bridges(empty_rule("x", "elder"), Rule(["b", "a"], simple_rule().lines))
        self.assertEqual(told, [{"b": one, "a": other} for one in sources for other in sources])
        for bridge in told:
            self.assertEqual(len(bridge), 2)

    def test_without_registers(self):
        for first in sample_rules():
            for second, stops in itertools.product((simple_rule(), rule_that(())), (False, True)):
                self.assertIn(bridges(first, second, stops=stops), ([{}], []))
                self.assert_bridges(first, second, stops)
        self.assertEqual(bridges(moving_rule(), simple_rule()), [{}])
        self.assertEqual(bridges(moving_rule(), rule_that((("here", "here"),))), [])

    def test_stops_of_the_first_rule(self):
        # Only amid an upgrade the note has anything that the second rule can stumble over.
        first = rule_of(["x"], ":x<new here<new x<nothing")
        second = rule_of(["y"], "y!nothing here!y:", ":here<new")
        self.assertIn({"y": "x"}, self.assert_bridges(first, second, False))
        self.assertNotIn({"y": "x"}, self.assert_bridges(first, second, True))
        self.assertIn({"y": "nothing"}, bridges(first, second, stops=True))

    def test_stops_of_the_second_rule(self):
        # What a person laid is not here between the steps, which are done only if the second note has something.
        second = rule_of(["x", "y"], "y!nothing:x<here here<nothing here<x", ":")
        bridge = {"x": "nothing", "y": "here"}
        self.assertIn(bridge, self.assert_bridges(simple_rule(), second, False))
        self.assertNotIn(bridge, self.assert_bridges(simple_rule(), second, True))

    def test_usual_troubles_count_with_stops_or_without(self):
        # A question is needless in paths of the second rule only behind a stop.
        first, second = asking_rule(), renamed_rule()
        self.assertNotIn({"seen": "nothing"}, self.assert_bridges(first, second, False))
        self.assertIn({"seen": "nothing"}, self.assert_bridges(first, rule_that((), keep=(), registers=["seen"]), True))
        self.assertEqual(self.assert_bridges(first, second, True), [{"seen": "was"}])

    def test_rules_with_two_registers_and_stops_end_quickly(self):
        start = time.monotonic()
        chance = random.Random(37)
        pairs = list(itertools.product((moving_rule(), beside_rule()), repeat=2))
        pairs += [(wide_rule(), moving_rule()), (moving_rule(), wide_rule()),
                  (chance_rule(chance, ["x", "y"]), chance_rule(chance, ["y", "elder"]))]
        for first, second in pairs:
            told = bridges(first, second, stops=True)
            unusual = [trouble for trouble in TROUBLES if shortest(second, trouble, stops=True) is None]
            for bridge in bridges_by_hand(first, second)[:12]:
                paths = [crossing(first, second, bridge, trouble, stops=True) for trouble in unusual]
                self.assertEqual(bridge in told, not any(paths))
        self.assertLess(time.monotonic() - start, 60)

    def test_dicts_that_are_told_are_new(self):
        first, second = asking_rule(), renamed_rule()
        bridges(first, second)[0].clear()
        bridges(first, second).clear()
        self.assertEqual(bridges(stops=False, second=second, first=first), [{"seen": "was"}])
        self.assertEqual((first, second), (asking_rule(), renamed_rule()))


class Helpers(unittest.TestCase):
    def test_searches_by_hand(self):
        self.assertEqual(troubles_by_hand([(File(simple_rule()), 0)], False), {"lost": 2, "revived": 3})
        self.assertEqual([count for _, count in files_with_numbers(simple_rule(), False)][0], 0)
        self.assertEqual(contents_of(File(simple_rule())), [None, None, None])


if __name__ == "__main__":
    unittest.main()
