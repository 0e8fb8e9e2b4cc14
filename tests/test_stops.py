"""Point [15] and "Stage 9" of the interface: harmful stop points, closing them, and paths that stop at some alone."""

import functools
import itertools
import random
import time
import unittest

from helper import (TROUBLES, any_values, asking_rule, beside_rule, caught, chance_rule, contents_to_try,
                    deeds_by_hand, do, is_deed_by_hand, moving_rule, pattern_by_hand, rule_of, rule_that,
                    sample_rules, simple_rule, wide_rule)
from stillmine.errors import BadTrouble
from stillmine.files import File
from stillmine.rules import Rule
from stillmine.stops import closing, harmful, shown
from stillmine.troubles import shortest

NEW = (("here", "new"),)
IDLE = ("here", "here")
ASKS = ((("y", "nothing", False),), (("y", "nothing"), ("x", "nothing")) + NEW, (("y", "nothing"), ("x", "nothing")))


def two_stops_rule():
    """A question comes only behind two stops, one on each of the other lines."""
    return Rule(["x", "y"], [
        ASKS,
        ((("x", "nothing", False),), (("y", "x"), ("y", "nothing"), ("x", "nothing")) + NEW),
        ((), (("x", "new"), ("x", "nothing")) + NEW),
    ])


def twice_rule():
    """A question comes only behind two stops on the same line, which may be the same stop."""
    return Rule(["x", "y"], [ASKS, ((), (("y", "x"), ("x", "new"), ("y", "nothing"), ("x", "nothing")))])


def many_sets_rule():
    """Nothing is done only behind two stops, each of them one of several that do the same."""
    first = (("x", "new"), IDLE, ("x", "nothing")) + NEW
    second = (("y", "x"), IDLE, ("y", "nothing")) + NEW
    return Rule(["x", "y"], [
        ((("y", "nothing", False),), ()),
        ((("x", "nothing", False),), second, second),
        ((), first, first),
    ])


def steps_chain_rule():
    """Eight lines with four steps each; each line leads on only if it is stopped, and forgets all otherwise."""
    forget = (("y", "nothing"), ("x", "nothing"))
    return Rule(["x", "y"], [
        ((("here", "nothing", True),), (("here", "new"), IDLE) + forget),
        ((("x", "here", True), ("y", "here", True)), (("here", "nothing"), IDLE) + forget, (IDLE, IDLE) + forget),
        ((("x", "new", True), ("y", "new", True)), (("y", "here"), ("x", "here")) + forget),
        ((("x", "here", True),), (("y", "new"), ("x", "new")) + forget, (("y", "new"), ("x", "here")) + forget),
        ((("y", "here", True),), (("x", "new"), IDLE) + forget),
        ((("x", "nothing", False),), (("y", "x"), ("x", "here")) + forget),
        ((("y", "nothing", False),), (("x", "y"), ("y", "here")) + forget, (("x", "here"), ("y", "new")) + forget),
        ((), (("here", "new"), ("x", "new"), ("y", "nothing"), ("x", "nothing"))),
    ])


def tangled_rules():
    """Rules with many stop points, and troubles with many least sets of them."""
    return [
        (rule_of(["x", "y"], "here=x new=nothing y!y here=y:x<new|x<y here<y",
                 "here=here x=y x=here:x<y y<nothing x<nothing y<nothing|x<y y<nothing x<nothing x<y",
                 "new=x y!new new!here:y<new here<x x<here here<x|y<nothing y<nothing",
                 "x=here here!y here=x x=new:here<nothing here<x x<nothing y<new|here<nothing here<x x<nothing y<new",
                 "here=new:here<x y<new here<nothing y<x|here<x here<y here<nothing x<x",
                 "new!here y!x new!x:x<y here<y x<nothing here<nothing|y<new x<new x<nothing y<here",
                 "x!x new=y here!here:y<here",
                 ":y<nothing x<y y<here y<x|y<here x<nothing y<x"), "revived"),
        (rule_of(["elder", "x"],
                 "new=elder here=x new!here:x<new elder<nothing x<elder|elder<new x<nothing elder<elder x<here",
                 "elder=here new=here new=new new=new:here<x here<nothing x<nothing here<x|elder<x elder<x",
                 "new=elder x!new:x<elder here<nothing x<here elder<new|x<nothing elder<here elder<new x<x",
                 "here=nothing:here<here here<elder here<x x<nothing|here<x x<x here<here here<elder",
                 "new=new new=nothing:elder<x x<new elder<elder",
                 "new!here new=x here!nothing:x<nothing elder<new here<elder elder<nothing|elder<nothing x<here",
                 "x!new:x<new x<here elder<new x<nothing",
                 ":x<nothing elder<here here<new|x<nothing elder<here x<elder here<elder"), "lost"),
    ]


def points_by_hand(rule):
    """All stop points of a rule."""
    points = []
    for position, line in enumerate(rule.lines):
        for number, steps in enumerate(line[1:]):
            word = ("take", "keep")[number] if len(line) == 3 else "steps"
            points += [(position, word, done) for done in range(len(steps))]
    return points


def point_by_hand(file, deed):
    """The stop point of a deed, None if it is not stopped."""
    if deed[0] == "edit" or deed[3] is None:
        return None
    held = {"here": file.here, "new": deed[1], "nothing": None, **{name: file[name] for name in file.rule.registers}}
    if deed[0] == "renamed":
        held["elder"], held["here"] = held["here"], None
    for position, (tests, *_) in enumerate(file.rule.lines):
        if all((held[one] == held[other]) is same for one, other, same in tests):
            return position, deed[2] or "steps", deed[3]


class Web:
    """What stops lead to, by a search over files: for each pattern a list of (point, troubles, pattern behind)."""

    def __init__(self, rule):
        self.start = pattern_by_hand(File(rule))
        self.steps = {}
        waiting = [File(rule)]
        while waiting:
            file = waiting.pop()
            if pattern_by_hand(file) in self.steps:
                continue
            told = deeds_by_hand(file, contents_to_try(file), True)
            self.steps[pattern_by_hand(file)] = [
                (point_by_hand(file, deed), troubles, pattern_by_hand(behind)) for deed, troubles, behind in told]
            waiting += [behind for _, _, behind in told]

    def distance(self, trouble, points):
        """The least number of deeds of a path to a trouble that stops at none but some points, or None."""
        allowed = {None, *points}
        level, seen, count = [self.start], {self.start}, 0
        while level:
            count += 1
            following = []
            for pattern in level:
                for point, troubles, behind in self.steps[pattern]:
                    if point in allowed:
                        if trouble in troubles:
                            return count
                        if behind not in seen:
                            seen.add(behind)
                            following.append(behind)
            level = following
        return None


def harmful_by_hand(web, trouble, points):
    """The least harmful sets of some points, by all subsets of them."""
    if web.distance(trouble, points) is None:
        return []
    least = []
    for size in range(len(points) + 1):
        for chosen in itertools.combinations(sorted(points), size):
            if not any(set(part) <= set(chosen) for part in least) and web.distance(trouble, chosen) is not None:
                least.append(list(chosen))
    return sorted(least)


@functools.lru_cache
def without_free_troubles(count):
    """Pairs (rule, trouble) by chance, in which no path without stops shows the trouble, but others may."""
    chance = random.Random(24)
    pairs = []
    while len(pairs) < count:
        rule = chance_rule(chance, chance.choice(([], ["x"], ["elder"], ["beside"], ["x", "y"], ["elder", "x"])))
        if len(points_by_hand(rule)) <= 9:
            pairs += [(rule, trouble) for trouble in TROUBLES
                      if shortest(rule, trouble) is None and shortest(rule, trouble, stops=True) is not None]
    return pairs[:count]


class Harmful(unittest.TestCase):
    def assert_told(self, rule, trouble, web=None, tries=40):
        """That harmful tells sets that are harmful and least, in their sequence, and by chance that none is missing."""
        web = web or Web(rule)
        told = harmful(rule, trouble)
        points = points_by_hand(rule)
        self.assertEqual(told, sorted(sorted(each) for each in told))
        chance = random.Random(25)
        for chosen in told if len(told) <= tries else chance.sample(told, tries):
            self.assertIsInstance(chosen, list)
            self.assertLessEqual(set(chosen), set(points))
            self.assertIsNotNone(web.distance(trouble, chosen))
            for point in chosen:
                self.assertIsNone(web.distance(trouble, [each for each in chosen if each != point]))
        for _ in range(tries):
            share = chance.random()
            chosen = {point for point in points if chance.random() < share}
            has_one = any(chosen.issuperset(each) for each in told)
            self.assertEqual(web.distance(trouble, chosen) is not None, has_one)
        return told

    def test_by_hand(self):
        rule = two_stops_rule()
        self.assertEqual(harmful(rule, "needless"), [[(1, "steps", 1), (2, "steps", 1)]])
        self.assertEqual(harmful(twice_rule(), "needless"), [[(1, "steps", 1), (1, "steps", 3)], [(1, "steps", 2)]])
        self.assertEqual(harmful(rule_that(NEW * 2), "needless"), [])

    def test_as_all_subsets(self):
        rules = sample_rules()[:4] + [rule_that((("here", "nothing"),) + NEW)]
        chance = random.Random(26)
        kinds = ([], ["x"], ["elder"], ["beside"])
        rules += [chance_rule(chance, registers) for registers in kinds for _ in range(6)]
        for rule in rules:
            points = points_by_hand(rule)
            if len(points) <= 9:
                web = Web(rule)
                for trouble in TROUBLES:
                    with self.subTest(lines=rule.lines, trouble=trouble):
                        self.assertEqual(harmful(rule, trouble), harmful_by_hand(web, trouble, points))

    def test_as_all_subsets_where_stops_count(self):
        sizes = set()
        for rule, trouble in without_free_troubles(25) + [(two_stops_rule(), "needless"), (twice_rule(), "needless")]:
            with self.subTest(registers=rule.registers, lines=rule.lines, trouble=trouble):
                told = harmful(rule, trouble)
                self.assertEqual(told, harmful_by_hand(Web(rule), trouble, points_by_hand(rule)))
                sizes.update(len(each) for each in told)
        self.assertEqual(sizes, {1, 2})

    def test_without_stops_already(self):
        for rule, trouble in ((simple_rule(), "lost"), (simple_rule(), "revived"), (rule_that(()), "stale"),
                              (rule_that((), keep=()), "needless"), (rule_that(NEW, registers=["elder"]), "left")):
            self.assertEqual(harmful(rule, trouble), [[]])
            self.assertIsNone(closing(rule, trouble))

    def test_never(self):
        for rule, trouble in ((simple_rule(), "needless"), (asking_rule(), "lost"), (asking_rule(), "left"),
                              (rule_that((IDLE,) * 4), "lost"), (rule_that((), keep=()), "left")):
            self.assertEqual((harmful(rule, trouble), closing(rule, trouble)), ([], []))

    def test_samples(self):
        for rule in (asking_rule(), moving_rule(), beside_rule(), two_stops_rule(), twice_rule()):
            web = Web(rule)
            for trouble in TROUBLES:
                with self.subTest(lines=rule.lines, trouble=trouble):
                    self.assert_told(rule, trouble, web)

    def test_points_that_do_the_same(self):
        told = self.assert_told(many_sets_rule(), "stale")
        choices = [(word, done) for word in ("keep", "take") for done in (1, 2)]
        self.assertEqual(told, [[(1, *one), (2, *other)] for one in choices for other in choices])

    def test_points_of_two_kinds_by_turns(self):
        rule = rule_of(["x", "y"], "y!nothing:",
                       "new=nothing x=nothing:x<here x<nothing here<new",
                       "new=nothing:y<x y<nothing x<nothing here<new",
                       "x=nothing:x<here x<nothing here<new",
                       ":y<x y<nothing x<nothing here<new")
        told = self.assert_told(rule, "stale")
        self.assertEqual([[line for line, *_ in points] for points in told], [[1, 2], [1, 4], [2, 3], [3, 4]])
        self.assertEqual({point[1:] for points in told for point in points}, {("steps", 1)})

    def test_a_stop_ahead_of_all_steps(self):
        # Amid an upgrade that was not begun, what came last may come again, and the question is not needless.
        told = harmful(asking_rule(), "needless")
        self.assertIn([(3, "take", 0)], told)
        self.assertNotIn([(0, "steps", 0)], told)

    def test_large_rules_end_quickly(self):
        start = time.monotonic()
        chance = random.Random(27)
        rules = [steps_chain_rule()] + [rule for rule, _ in tangled_rules()]
        for registers in (["x"], ["x", "y"], ["elder", "x"], ["beside", "y"]):
            lines = [line for _ in range(12) for line in chance_rule(chance, registers).lines[:-1]]
            rules.append(Rule(registers, lines[:7] + [((), NEW, ())]))
        for rule in rules:
            self.assertEqual(len(rule.lines), 8)
            for trouble in TROUBLES:
                told, closed = harmful(rule, trouble), closing(rule, trouble)
                self.assertEqual(closed is None, told == [[]])
        self.assertLess(time.monotonic() - start, 30)

    def test_large_rules(self):
        for rule in (steps_chain_rule(), many_sets_rule()):
            web = Web(rule)
            for trouble in TROUBLES:
                with self.subTest(lines=rule.lines, trouble=trouble):
                    self.assert_told(rule, trouble, web, tries=15)

    def test_tangled_rules(self):
        for rule, trouble in tangled_rules():
            told = self.assert_told(rule, trouble, tries=100)
            self.assertGreater(len(told), 20)
            self.assertGreater(max(len(each) for each in told), 1)

    def test_lists_that_are_told_are_new(self):
        rule = two_stops_rule()
        for number in range(2):
            harmful(rule, "needless")[0].clear()
            harmful(rule, "needless").clear()
            harmful(simple_rule(), "lost")[0].append(number)
            closing(rule, "needless").clear()
        self.assertEqual(harmful(trouble="needless", rule=rule), [[(1, "steps", 1), (2, "steps", 1)]])
        self.assertEqual(harmful(simple_rule(), "lost"), [[]])
        self.assertEqual(len(closing(trouble="needless", rule=rule)), 1)


class Closing(unittest.TestCase):
    def assert_closed(self, rule, trouble, web):
        """That closing tells points that are enough, and that no smaller number is."""
        told = closing(rule, trouble)
        sets = harmful(rule, trouble)
        if sets == [[]]:
            self.assertIsNone(told)
            return
        self.assertIsInstance(told, list)
        self.assertEqual(told, sorted(set(told)))
        points = points_by_hand(rule)
        self.assertLessEqual(set(told), set(points))
        self.assertIsNone(web.distance(trouble, set(points) - set(told)))
        parts = sorted({point for each in sets for point in each})
        if told and len(parts) <= 14:
            for fewer in itertools.combinations(parts, len(told) - 1):
                self.assertIsNotNone(web.distance(trouble, set(points) - set(fewer)))

    def test_samples(self):
        for rule in sample_rules() + [two_stops_rule(), twice_rule(), many_sets_rule()]:
            web = Web(rule)
            for trouble in TROUBLES:
                with self.subTest(lines=rule.lines, trouble=trouble):
                    self.assert_closed(rule, trouble, web)

    def test_tangled_rules(self):
        for rule, trouble in tangled_rules():
            self.assert_closed(rule, trouble, Web(rule))

    def test_where_stops_count(self):
        for rule, trouble in without_free_troubles(25):
            with self.subTest(registers=rule.registers, lines=rule.lines, trouble=trouble):
                self.assert_closed(rule, trouble, Web(rule))

    def test_by_hand(self):
        self.assertEqual(len(closing(two_stops_rule(), "needless")), 1)
        self.assertIn(closing(two_stops_rule(), "needless"), ([(1, "steps", 1)], [(2, "steps", 1)]))
        self.assertEqual(len(closing(twice_rule(), "needless")), 2)
        self.assertIn((1, "steps", 2), closing(twice_rule(), "needless"))
        self.assertEqual(closing(asking_rule(), "needless"), [(0, "steps", 1), (3, "take", 0), (3, "take", 1)])

    def test_all_that_do_the_same(self):
        # Each harmful set has one point of each line, so that closing the fewer ones of one line is enough.
        for position in (1, 2):
            lines = list(many_sets_rule().lines)
            lines[position] = lines[position][:2] + (NEW,)
            told = closing(Rule(["x", "y"], lines), "stale")
            self.assertEqual(told, [(position, "take", 1), (position, "take", 2)])
        for first, second, told in (("x<new x<nothing here<new", "y<x y<nothing here<new", None),
                                    ("x<new x<x x<nothing here<new", "y<x y<nothing here<new", [(1, "steps", 1)]),
                                    ("x<new x<nothing here<new", "y<x y<y y<nothing here<new", [(2, "steps", 1)])):
            closed = closing(rule_of(["x", "y"], "y!nothing:", "x!nothing:" + second, ":" + first), "stale")
            self.assertEqual((closed, len(closed)), (told or closed, 1))


class Shown(unittest.TestCase):
    def assert_shown(self, rule, trouble, points, web):
        """That shown tells a shortest path that stops at none but some points, or None if there is none."""
        before = list(points)
        path = shown(rule, trouble, points)
        self.assertEqual(points, before)
        distance = web.distance(trouble, points)
        self.assertEqual(None if path is None else len(path), distance)
        if path is not None:
            self.assertIsInstance(path, list)
            file, troubles = File(rule), []
            for deed in path:
                self.assertTrue(is_deed_by_hand(file, deed, True))
                self.assertIn(point_by_hand(file, deed), [None, *points])
                troubles = do(file, deed)
            self.assertIn(trouble, troubles)

    def test_some_points(self):
        chance = random.Random(28)
        rules = sample_rules() + [two_stops_rule(), twice_rule(), many_sets_rule()]
        rules += [chance_rule(chance, registers) for registers in ([], ["x"], ["elder"], ["elder", "x"])]
        for rule in rules:
            web, points = Web(rule), points_by_hand(rule)
            for trouble in TROUBLES:
                for _ in range(6):
                    chosen = chance.sample(points, chance.randint(0, min(len(points), 5)))
                    with self.subTest(lines=rule.lines, trouble=trouble, points=chosen):
                        self.assert_shown(rule, trouble, chosen, web)

    def test_none_and_all(self):
        chance = random.Random(29)
        rules = sample_rules() + [two_stops_rule(), twice_rule(), wide_rule()]
        rules += [chance_rule(chance, registers) for registers in ([], ["x"], ["elder"], ["x", "beside"])]
        for rule in rules:
            for trouble in TROUBLES:
                for points, stops in (([], False), (points_by_hand(rule), True), (points_by_hand(rule)[::-1], True)):
                    path, other = shown(rule, trouble, points), shortest(rule, trouble, stops=stops)
                    self.assertEqual(path and len(path), other and len(other))

    def test_least_sets(self):
        for rule, trouble in without_free_troubles(25)[:10] + [(two_stops_rule(), "needless")]:
            web = Web(rule)
            for points in harmful(rule, trouble):
                self.assert_shown(rule, trouble, points, web)
                self.assert_shown(rule, trouble, points[::-1], web)
                self.assert_shown(rule, trouble, points[1:], web)
            self.assertIsNone(shown(rule, trouble, [point for point in points_by_hand(rule)
                                                    if point not in closing(rule, trouble)]))

    def test_two_stops(self):
        points = [(2, "steps", 1), (1, "steps", 1)]
        path = shown(two_stops_rule(), "needless", points)
        self.assertEqual([len(path), [deed[3] for deed in path]], [3, [1, 1, None]])
        self.assertEqual(points, [(2, "steps", 1), (1, "steps", 1)])
        for part in (points[:1], points[1:], []):
            self.assertIsNone(shown(two_stops_rule(), "needless", part))

    def test_one_stop_several_times(self):
        path = shown(twice_rule(), "needless", [(1, "steps", 2)])
        self.assertEqual([len(path), [deed[3] for deed in path]], [3, [2, 2, None]])
        path = shown(twice_rule(), "needless", [(1, "steps", 1), (1, "steps", 3)])
        self.assertEqual([deed[3] for deed in path], [3, 1, None])

    def test_lists_that_are_told_are_new(self):
        rule, points = twice_rule(), [(1, "steps", 2)]
        before = shown(rule, "needless", points)
        shown(rule, "needless", points).clear()
        self.assertEqual(shown(points=points, rule=rule, trouble="needless"), before)
        self.assertEqual((points, rule), ([(1, "steps", 2)], twice_rule()))


class Refusals(unittest.TestCase):
    def test_bad_troubles_first(self):
        for value in any_values() + ["Lost", "lost ", ["lost"], ("lost",), {"lost": 1}, "needless, lost"]:
            for rule in (asking_rule(), simple_rule(), None, 1, []):
                errors = [caught(harmful, rule, value), caught(closing, rule, value)]
                errors += [caught(shown, rule, value, points) for points in ([], None, [(0, "steps", 0)], "x", [[]])]
                for error in errors:
                    self.assertIsInstance(error, BadTrouble)
                    self.assertIs(error.value, value)

    def test_the_five_words(self):
        for trouble in TROUBLES:
            for call in (harmful, closing):
                self.assertIsNone(caught(call, asking_rule(), trouble))
            self.assertIsNone(caught(shown, asking_rule(), trouble, []))


if __name__ == "__main__":
    unittest.main()
