"""["Stage 12" of the interface] Texts of rules: rule_text and read_rule, there and back, and what is refused."""

import random
import re
import unittest

from helper import any_values, asking_rule, beside_rule, caught, chance_rule, moving_rule, rule_that, sample_rules
from stillmine.errors import BadText
from stillmine.rules import Rule
from stillmine.texts import read_rule, rule_text

BARRED = ("here", "new", "nothing", "is", "not", "from", "or", "ask", "do", "otherwise")
ALL_KINDS = """registers was beside x
here is was, new is not nothing, x is here, beside is not x: here from new, was from new, x from nothing, x from was
otherwise: do nothing
was is not was: ask do nothing or was from beside
new is nothing: ask here from here or do nothing
otherwise: ask do nothing or do nothing
x is here, x is here: x from x
here is not here: ask x from x, x from x, x from x, x from x or x from here
otherwise: ask here from new or beside from new"""


def registers_by_hand(row):
    """The names on the first line of a text, or None if it is the first line of no rule's text."""
    match = re.fullmatch(r"registers((?: [a-z]{1,8}){0,3})", row)
    names = match.group(1).split() if match else []
    if match is None or len(set(names)) < len(names) or set(names) & set(BARRED):
        return None
    return names


def pattern_of_lines(names):
    """A regular expression for the text of a line with some registers; its first group tells that it has no tests."""
    registers = "".join("|" + name for name in names)
    test = f"(?:here|new{registers}) is (?:not )?(?:here|new|nothing{registers})"
    step = f"(?:here{registers}) from (?:here|new|nothing{registers})"
    steps = f"(?:do nothing|{step}(?:, {step}){{0,3}})"
    return f"(?:(otherwise)|{test}(?:, {test}){{0,3}}): (?:{steps}|ask {steps} or {steps})"


def bad_line_by_hand(text):
    """The line that BadText tells of a text, or None if it is the text of a rule."""
    rows = text.split("\n")
    names = registers_by_hand(rows[0])
    if names is None:
        return 1
    match = None
    for number, row in enumerate(rows[1:], start=2):
        match = re.fullmatch(pattern_of_lines(names), row)
        if match is None or number > 9 or number == 9 and not match.group(1):
            return number
    return None if match and match.group(1) else len(rows) + 1


class There(unittest.TestCase):
    def assert_text(self, rule, text):
        with self.subTest(text):
            self.assertEqual(rule_text(rule), text)
            self.assertEqual(read_rule(text), rule)
            self.assertIsInstance(read_rule(text), Rule)

    def test_of_each_kind(self):
        new = (("here", "new"),)
        self.assert_text(rule_that(()), "registers\notherwise: do nothing")
        self.assert_text(rule_that(new), "registers\notherwise: here from new")
        self.assert_text(rule_that(new, keep=()), "registers\notherwise: ask here from new or do nothing")
        self.assert_text(rule_that((), keep=new), "registers\notherwise: ask do nothing or here from new")
        self.assert_text(rule_that((), keep=()), "registers\notherwise: ask do nothing or do nothing")
        self.assert_text(rule_that((("was", "nothing"), ("here", "was")), registers=["was"]),
                         "registers was\notherwise: was from nothing, here from was")
        tests = (("a", "nothing", False), ("new", "registry", True))
        self.assert_text(Rule(["a", "registry"], [(tests, ()), ((), ())]),
                         "registers a registry\na is not nothing, new is registry: do nothing\notherwise: do nothing")
        self.assert_text(Rule([], [((), new), ((("new", "here", True),), (), new), ((), ())]),
                         "registers\notherwise: here from new\nnew is here: ask do nothing or here from new\n"
                         "otherwise: do nothing")

    def test_a_rule_with_all_kinds_of_lines(self):
        rule = read_rule(ALL_KINDS)
        self.assertEqual((rule.registers, len(rule.lines)), (("was", "beside", "x"), 8))
        self.assertEqual(rule.lines[0], (
            (("here", "was", True), ("new", "nothing", False), ("x", "here", True), ("beside", "x", False)),
            (("here", "new"), ("was", "new"), ("x", "nothing"), ("x", "was")),
        ))
        self.assertEqual(rule.lines[2:4], (((("was", "was", False),), (), (("was", "beside"),)),
                                           ((("new", "nothing", True),), (("here", "here"),), ())))
        self.assert_text(rule, ALL_KINDS)

    def test_samples_and_chance_rules(self):
        chance = random.Random(32)
        kinds = ([], ["x"], ["beside", "x"], ["elder", "was", "beside"], ["registry", "z"])
        for rule in sample_rules() + [chance_rule(chance, registers) for registers in kinds for _ in range(20)]:
            self.assert_text(rule, rule_text(rule))
            self.assertIsNone(bad_line_by_hand(rule_text(rule)))

    def test_by_name(self):
        self.assertEqual(rule_text(rule=moving_rule()), rule_text(moving_rule()))
        self.assertEqual(read_rule(text=rule_text(moving_rule())), moving_rule())


class Refusals(unittest.TestCase):
    def assert_bad(self, line, text):
        with self.subTest(text=text):
            error = caught(read_rule, text)
            self.assertIsInstance(error, BadText)
            self.assertEqual((error.line, type(error.line)), (line, int))

    def assert_as_by_hand(self, text):
        """That a text is read, or refused, as a reading by hand tells."""
        line = bad_line_by_hand(text)
        if line is None:
            self.assertEqual(rule_text(read_rule(text)), text)
        else:
            self.assert_bad(line, text)
        return line

    def test_values_of_other_kinds(self):
        for value in any_values():
            self.assert_bad(1, value)
        for value in (b"registers", ["registers"], ["registers\notherwise: do nothing"], 1.0):
            self.assert_bad(1, value)

    def test_the_first_line(self):
        for row in ("", " ", "registers ", " registers", "register", "Registers", "registers  was", "registers was ",
                    "registers was was", "registers a b c d", "registers here", "registers Was", "registers was,x",
                    "registers abcdefghi", "registers x1", "registers: was", "registers\twas", "registers or",
                    "was", "otherwise: do nothing", "registers\rwas", "registerswas"):
            self.assert_bad(1, row)
            self.assert_bad(1, row + "\notherwise: do nothing")
            self.assert_bad(1, row + "\n")
        for word in BARRED:
            self.assert_bad(1, "registers x " + word + "\notherwise: do nothing")

    def test_without_a_last_line(self):
        self.assert_bad(2, "registers")
        self.assert_bad(2, "registers was x")
        self.assert_bad(3, "registers\nhere is new: do nothing")
        self.assert_bad(4, "registers\notherwise: do nothing\nhere is new: do nothing")
        self.assert_bad(9, "\n".join(["registers"] + ["here is new: do nothing"] * 7))

    def test_newlines_at_the_end_and_between(self):
        text = rule_text(asking_rule())
        self.assert_bad(6, text + "\n")
        self.assert_bad(6, text + "\n\n")
        self.assert_bad(1, "\n" + text)
        self.assert_bad(2, text.replace("\n", "\n\n"))
        self.assert_bad(1, text.replace("\n", "\r\n"))
        self.assert_bad(5, text + "\r")

    def test_the_eighth_and_ninth_line(self):
        tests, none = "here is new: do nothing", "otherwise: do nothing"
        self.assertIsNone(caught(read_rule, "\n".join(["registers"] + [tests] * 7 + [none])))
        self.assertIsNone(caught(read_rule, "\n".join(["registers"] + [none] * 8)))
        self.assert_bad(9, "\n".join(["registers"] + [tests] * 8))
        self.assert_bad(9, "\n".join(["registers"] + [none] * 7 + [tests]))
        self.assert_bad(9, "\n".join(["registers"] + [none] * 7 + [tests, none]))
        self.assert_bad(10, "\n".join(["registers"] + [none] * 9))
        self.assert_bad(10, "\n".join(["registers"] + [none] * 8 + [tests]))
        self.assert_bad(10, "\n".join(["registers"] + [none] * 8 + [""]))

    def test_lines_that_are_none(self):
        for row in ("", " ", ":", ": ", "otherwise", "otherwise:", "otherwise: ", "otherwise:do nothing",
                    "otherwise : do nothing", " otherwise: do nothing", "otherwise: do nothing ",
                    "otherwise:  do nothing",
                    "otherwise: do  nothing", "otherwise: nothing", "otherwise: do", "Otherwise: do nothing",
                    "otherwise: do nothing, here from new", "otherwise: here from new, do nothing",
                    "otherwise: here from new,here from new", "otherwise: here from new , here from new",
                    "otherwise: here from new,  here from new", "otherwise: here from new,",
                    "otherwise: , here from new", "otherwise: here  from new", "otherwise: here to new",
                    "otherwise: here from", "otherwise: from new",
                    "otherwise: here from new new", "otherwise: new from here", "otherwise: nothing from here",
                    "otherwise: here from y", "otherwise: y from here", "otherwise: here new",
                    "otherwise: " + ", ".join(["here from new"] * 5),
                    "otherwise: ask do nothing", "otherwise: ask do nothing or", "otherwise: ask  or do nothing",
                    "otherwise: ask do nothing or do nothing or do nothing", "otherwise: do nothing or do nothing",
                    "otherwise: ask ask do nothing or do nothing", "otherwise: ask do nothing or ask do nothing",
                    "otherwise: askdo nothing or do nothing", "otherwise: ask do nothing  or do nothing",
                    "otherwise: ask", "otherwise: ask ",
                    "otherwise: ask " + ", ".join(["x from x"] * 5) + " or do nothing",
                    "otherwise, here is new: do nothing", "here is new, otherwise: do nothing",
                    "here is new", "here is new:", "here is new do nothing", ": do nothing", "here new: do nothing",
                    "here is  new: do nothing", "here is not: do nothing", "here not new: do nothing",
                    "here is not not new: do nothing", "is new: do nothing", "nothing is here: do nothing",
                    "here is y: do nothing", "y is here: do nothing", "here is new x: do nothing",
                    "here is new,x is new: do nothing", "here is new, : do nothing", ", here is new: do nothing",
                    ", ".join(["here is new"] * 5) + ": do nothing", "here is new: : do nothing",
                    "here is new: do nothing: do nothing", "here isnot new: do nothing", "HERE is new: do nothing",
                    "here is new: here from new\t", "otherwise: do nothing\x0b", "here is new; x is new: do nothing",
                    "registers x", "x: do nothing", "here is None: do nothing", "here from new: do nothing"):
            for ahead in ([], ["here is x: do nothing"],
                          ["otherwise: x from new", "here is x: ask do nothing or do nothing"]):
                self.assert_bad(len(ahead) + 2, "\n".join(["registers x", *ahead, row]))
                self.assert_bad(len(ahead) + 2, "\n".join(["registers x", *ahead, row, "otherwise: do nothing"]))

    def test_the_first_of_several(self):
        self.assert_bad(1, "registers x x\nnone\nnone")
        self.assert_bad(2, "registers x\nnone\nnone")
        self.assert_bad(3, "registers x\notherwise: do nothing\nnone\nx is here: do nothing")

    def test_texts_with_lines_changed(self):
        texts = [rule_text(rule) for rule in (asking_rule(), moving_rule(), beside_rule())] + [ALL_KINDS]
        lines_told = set()
        for text in texts:
            rows = text.split("\n")
            others = [row for other in texts for row in other.split("\n")] + ["", "none"]
            for at in range(len(rows)):
                changed = [rows[:at] + rows[at + 1:], rows[:at] + [rows[at]] * 2 + rows[at + 1:], rows[:at]]
                changed += [rows[:at] + [other] + rows[at + 1:] for other in others]
                changed += [rows[:at] + [other] + rows[at:] for other in others]
                for with_at in range(at):
                    told = list(rows)
                    told[at], told[with_at] = told[with_at], told[at]
                    changed.append(told)
                for each in changed:
                    lines_told.add(self.assert_as_by_hand("\n".join(each)))
            for size in range(len(text)):
                lines_told.add(self.assert_as_by_hand(text[:size]))
                lines_told.add(self.assert_as_by_hand(text[size:]))
        self.assertEqual(lines_told, {None, *range(1, 11)})

    def test_texts_with_signs_and_words_changed(self):
        chance = random.Random(33)
        signs = " ,:\n" + "abis" + "A\t0"
        told = {True: 0, False: 0}
        for rule in (asking_rule(), moving_rule(), read_rule(ALL_KINDS)):
            text = rule_text(rule)
            words = sorted(set(text.replace("\n", " ").replace(",", " ").replace(":", " ").split()))
            for _ in range(400):
                at = chance.randrange(len(text))
                sign = chance.choice(signs)
                changed = chance.choice([text[:at] + text[at + 1:], text[:at] + sign + text[at:],
                                         text[:at] + sign + text[at + 1:]])
                told[self.assert_as_by_hand(changed) is None] += 1
                parts = re.split(r"(\W+)", text)
                place = chance.randrange(0, len(parts), 2)
                parts[place] = chance.choice(words)
                told[self.assert_as_by_hand("".join(parts)) is None] += 1
        self.assertGreater(min(told.values()), 100)


if __name__ == "__main__":
    unittest.main()
