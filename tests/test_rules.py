"""Points [2] and [3]: rules."""

import unittest

from helper import ARRIVED, ASK, SAME, UNTOUCHED, Equal, any_values, asking_rule, caught, simple_rule
from stillmine import rules
from stillmine.errors import BadLine, BadLines, BadRegisters
from stillmine.rules import Rule

END = ((), ())
BARRED = ("here", "new", "nothing", "is", "not", "from", "or", "ask", "do", "otherwise")


class Refusing(unittest.TestCase):
    """What several classes of tests ask of refusals."""

    def assert_bad_registers(self, registers, lines=(END,)):
        with self.subTest(registers):
            error = caught(Rule, registers, lines)
            self.assertIsInstance(error, BadRegisters)
            self.assertIs(error.value, registers)

    def assert_bad_lines(self, lines):
        with self.subTest(lines):
            error = caught(Rule, ["was"], lines)
            self.assertIsInstance(error, BadLines)
            self.assertIs(error.value, lines)

    def assert_bad_line(self, line, position=0, registers=("was",), lines=None):
        with self.subTest(line):
            error = caught(Rule, registers, [line, END] if lines is None else lines)
            self.assertIsInstance(error, BadLine)
            self.assertEqual(error.position, position)
            self.assertIs(type(error.position), int)


class Registers(Refusing):
    def test_right_ones(self):
        for names in ([], ["a"], ["beside"], ["elder", "beside"], ["abcdefgh", "z", "elder"],
                      ["heres", "take", "keep"], ["registers", "last", "mine"][1:], ["old", "news", "isnot"]):
            for registers in (names, tuple(names)):
                with self.subTest(registers):
                    rule = Rule(registers, [END])
                    self.assertEqual(rule.registers, tuple(names))
                    self.assertIs(type(rule.registers), tuple)

    def test_places_and_notes_in_their_sequence(self):
        rule = Rule(["elder", "was", "beside"], [END])
        self.assertEqual((rule.places, rule.notes), (("elder", "beside"), ("was",)))
        rule = Rule(["z", "beside", "a"], [END])
        self.assertEqual((rule.places, rule.notes), (("beside",), ("z", "a")))
        rule = Rule([], [END])
        self.assertEqual((rule.places, rule.notes), ((), ()))
        rule = Rule(["besides", "eld"], [END])
        self.assertEqual((rule.places, rule.notes), ((), ("besides", "eld")))

    def test_neither_list_nor_tuple(self):
        for value in any_values():
            if not isinstance(value, (list, tuple)):
                self.assert_bad_registers(value)

    def test_too_many(self):
        self.assert_bad_registers(["a", "b", "c", "d"])
        self.assert_bad_registers(("a", "b", "c", "d"))

    def test_same_name_twice(self):
        self.assert_bad_registers(["a", "a"])
        self.assert_bad_registers(("a", "b", "a"))
        self.assert_bad_registers(["elder", "elder"])

    def test_barred_words(self):
        for word in BARRED:
            self.assert_bad_registers([word])
            self.assert_bad_registers(["a", "b", word])

    def test_no_names(self):
        for name in ("", "abcdefghi", "Was", "wasA", "a1", "a b", "a_b", "a-b", "a\n", "\n", "a\nb", "~", "`", "{",
                     " a"):
            self.assert_bad_registers([name])
            self.assert_bad_registers(("a", name))

    def test_any_value_as_a_name(self):
        for value in any_values():
            if not isinstance(value, str):
                self.assert_bad_registers([value])
                self.assert_bad_registers((value,))
                self.assert_bad_registers(["a", value])
                self.assert_bad_registers([value, value])


class Lines(Refusing):
    def test_right_ones(self):
        right = (
            UNTOUCHED, ARRIVED, SAME, ASK, END, ((), (), ()),
            ((("here", "here", True), ("new", "new", False), ("was", "was", True), ("new", "here", False)), ()),
            ((("here", "nothing", False), ("new", "nothing", True), ("was", "nothing", False)), ()),
            ((), (("here", "nothing"), ("here", "here"), ("here", "was"), ("here", "new"))),
            ((), (("was", "nothing"), ("was", "here"), ("was", "was"), ("was", "new")), ()),
            ((("was", "here", True),), (), (("was", "nothing"),) * 4),
        )
        for line in right:
            for lines in ([line, END], (line, END)):
                with self.subTest(lines):
                    rule = Rule(["was"], lines)
                    self.assertEqual(rule.lines, (line, END))
                    self.assertIs(type(rule.lines), tuple)
                    self.assertIs(rule.asks(0), len(line) == 3)
                    self.assertIs(rule.asks(1), False)

    def test_one_to_eight(self):
        for many in range(1, 9):
            with self.subTest(many):
                self.assertEqual(len(Rule([], [END] * many).lines), many)
                self.assertEqual(len(Rule([], (END,) * many).lines), many)
        for many in (0, 9, 10, 20):
            self.assert_bad_lines([END] * many)
            self.assert_bad_lines((END,) * many)

    def test_neither_list_nor_tuple(self):
        for value in any_values():
            if not isinstance(value, (list, tuple)) or len(value) == 0:
                self.assert_bad_lines(value)

    def test_number_goes_ahead_of_entries(self):
        self.assert_bad_lines([1] * 9)

    def test_any_value_as_a_line(self):
        for value in any_values():
            if value != ((), ()):
                self.assert_bad_line(value)
                self.assert_bad_line(value, 1, lines=[ASK, value])
                self.assert_bad_line(value, 2, lines=(ASK, END, value, END))

    def test_length_of_a_line(self):
        for line in ((), ((),), ((), (), (), ())):
            self.assert_bad_line(line)

    def test_lists_are_no_tuples(self):
        for line in ([(), ()], ([], ()), ((), []), ((), [], ()), ((), (), []), (["here"], ()), ((), ["here"]),
                     ((["here", "new", True],), ()), ((), (["here", "new"],)), ((), (), (["here", "new"],)),
                     ([("here", "new", True)], ()), ((), [("here", "new")])):
            self.assert_bad_line(line)

    def test_any_value_as_tests_or_steps(self):
        for value in any_values():
            if value != ():
                self.assert_bad_line((value, ()))
            if value != () and value != (("here", "new"),):
                self.assert_bad_line(((), value))
                self.assert_bad_line(((), value, ()))
                self.assert_bad_line(((), (), value))

    def test_at_most_four(self):
        self.assert_bad_line(((("here", "new", True),) * 5, ()))
        for five in ((("here", "new"),) * 5, (("was", "was"),) * 6):
            self.assert_bad_line(((), five))
            self.assert_bad_line(((), five, ()))
            self.assert_bad_line(((), (), five))

    def test_wrong_tests(self):
        for test in (("nothing", "here", True), ("is", "here", True), ("", "new", True), ("Here", "new", True),
                     ("beside", "new", True), ("here", "elder", True), ("here", "is", True), ("here", "", True),
                     ("here", "new"), ("here", "new", True, True), (), ("here",), "new", ("here", "new", 1),
                     ("here", "new", 0), ("here", "new", "True"), ("here", "new", None), (("here",), "new", True)):
            self.assert_bad_line(((test,), ()))
            self.assert_bad_line(((("here", "new", True), test), ()))
            self.assert_bad_line(((test,), (), ()))

    def test_any_value_in_a_test(self):
        for value in any_values():
            self.assert_bad_line(((value,), ()))
            if value not in ("here", "new", "was"):
                self.assert_bad_line((((value, "here", True),), ()))
                self.assert_bad_line(((("here", value, True),), ()))
            if not isinstance(value, bool):
                self.assert_bad_line(((("here", "new", value),), ()))

    def test_wrong_steps(self):
        for step in (("new", "here"), ("nothing", "here"), ("beside", "here"), ("here", "elder"), ("here", "from"),
                     ("", "new"), ("here", ""), ("here",), (), ("here", "new", True), "hn", ("take", "new")):
            for line in (((), (step,)), ((), (step,), ()), ((), (), (step,)), ((), (("here", "new"), step))):
                self.assert_bad_line(line)

    def test_any_value_in_a_step(self):
        for value in any_values():
            steps = [(value,)]
            if value not in ("here", "was"):
                steps += [((value, "new"),), (("here", "new"), (value, "new"))]
                steps += [(("here", value),)]
            for each in steps:
                self.assert_bad_line(((), each))
                self.assert_bad_line(((), each, ()))
                self.assert_bad_line(((), (), each))

    def test_names_of_other_rules(self):
        self.assert_bad_line(UNTOUCHED, registers=())
        self.assert_bad_line(UNTOUCHED, registers=("wa", "wass"))

    def test_last_line_with_tests(self):
        self.assert_bad_line(SAME, 0, lines=[SAME])
        self.assert_bad_line(SAME, 2, lines=(UNTOUCHED, END, SAME))
        self.assert_bad_line(None, 0, lines=[((("here", "new", True),), (), ())])

    def test_lines_without_tests_may_stand_amid(self):
        self.assertEqual(Rule([], [END, ((), (), ()), END]).lines, (END, ((), (), ()), END))

    def test_first_one_that_is_wrong(self):
        self.assert_bad_line(None, 1, lines=[SAME, None, 5, SAME])
        self.assert_bad_line(None, 1, lines=[SAME, [], SAME])
        self.assert_bad_line(None, 0, lines=["x", "y"])

    def test_two_things_wrong_at_once(self):
        self.assert_bad_registers(["here"], [])
        self.assert_bad_registers("was", 5)
        self.assert_bad_registers([1], [UNTOUCHED])
        self.assert_bad_registers(None, [None])
        self.assert_bad_lines([])
        self.assert_bad_lines([None] * 9)


class Reading(unittest.TestCase):
    def test_by_name(self):
        rule = Rule(lines=[ASK], registers=["was"])
        self.assertEqual((rule.registers, rule.lines), (("was",), (ASK,)))
        self.assertIs(rule.asks(position=0), True)

    def test_asks(self):
        rule = asking_rule()
        self.assertEqual([rule.asks(position) for position in range(4)], [False, False, False, True])
        for position in range(4):
            self.assertIs(type(rule.asks(position)), bool)

    def test_a_position_without_a_line_asks_nothing(self):
        rule = asking_rule()
        for position in (4, 5, 100, -1, 10 ** 60):
            self.assertIs(rule.asks(position), False)

    def test_what_is_changed_afterwards_changes_nothing(self):
        registers, lines = ["was", "elder"], [UNTOUCHED, ASK]
        rule = Rule(registers, lines)
        registers.append("more")
        registers[0] = "other"
        lines.pop()
        lines[0] = END
        self.assertEqual(rule.registers, ("was", "elder"))
        self.assertEqual(rule.lines, (UNTOUCHED, ASK))
        self.assertEqual((rule.places, rule.notes), (("elder",), ("was",)))
        self.assertIs(rule.asks(1), True)

    def test_arguments_are_not_changed(self):
        registers, lines = ["was"], [UNTOUCHED, ASK]
        Rule(registers, lines)
        caught(Rule, registers, [UNTOUCHED])
        self.assertEqual((registers, lines), (["was"], [UNTOUCHED, ASK]))

    def test_in_the_body_of_the_class(self):
        for name in ("registers", "lines", "places", "notes"):
            self.assertIsInstance(vars(Rule)[name], property)
        for name in ("__init__", "asks", "__eq__"):
            self.assertTrue(callable(vars(Rule)[name]))
        self.assertEqual(Rule.__module__, rules.__name__)


class Equality(Equal):
    def test_equal_rules(self):
        self.assert_equal_is(asking_rule(), asking_rule(), True)
        self.assert_equal_is(Rule(("was",), (ASK,)), Rule(["was"], [ASK]), True)
        self.assert_equal_is(Rule([], [END]), Rule((), (END,)), True)

    def test_other_registers_or_lines(self):
        rule = Rule(["was", "old"], [UNTOUCHED, SAME, END])
        for other in (
            Rule(["old", "was"], [UNTOUCHED, SAME, END]),
            Rule(["was"], [UNTOUCHED, SAME, END]),
            Rule(["was", "old", "beside"], [UNTOUCHED, SAME, END]),
            Rule(["was", "old"], [SAME, UNTOUCHED, END]),
            Rule(["was", "old"], [UNTOUCHED, SAME, ((), (), ())]),
            Rule(["was", "old"], [UNTOUCHED, END]),
            Rule(["was", "old"], [UNTOUCHED, SAME, END, END]),
            Rule(["was", "old"], [UNTOUCHED, ((("new", "was", False),), ()), END]),
            simple_rule(),
        ):
            self.assert_equal_is(rule, other, False)

    def test_any_value(self):
        rule = Rule(["old"], [END])
        for value in any_values() + [("old",), (("old",), (END,)), [["old"], [END]]]:
            self.assert_equal_is(rule, value, False)


if __name__ == "__main__":
    unittest.main()
