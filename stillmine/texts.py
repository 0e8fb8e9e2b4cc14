"""Texts: rules as people write and read them."""

from stillmine.errors import BadText
from stillmine.rules import Rule, are_registers, is_line


def rule_text(rule):
    """Return the text of a rule."""
    return "\n".join([" ".join(["registers"] + list(rule.registers))] + [line_text(line) for line in rule.lines])


def read_rule(text):
    """Return the rule with a text."""
    if not isinstance(text, str):
        raise BadText(1)
    first, *others = text.split("\n")
    word, *names = first.split(" ")
    if word != "registers" or not are_registers(names):
        raise BadText(1)
    lines = []
    for row in others:
        line = read_line(row)
        # A rule has at most eight lines, and the eighth one is the last, which has no tests.
        too_much = len(lines) == 8 or (len(lines) == 7 and line[0] != ())
        if too_much or not is_line(line, tuple(names)) or line_text(line) != row:
            raise BadText(len(lines) + 2)
        lines.append(line)
    if not lines or lines[-1][0] != ():
        raise BadText(len(lines) + 2)
    return Rule(names, lines)


def line_text(line):
    """Return the text of a line of a rule."""
    lists = " or ".join([steps_text(steps) for steps in line[1:]])
    return tests_text(line[0]) + ": " + ("ask " if len(line) == 3 else "") + lists


def tests_text(tests):
    """Return the text of tests."""
    told = [one + (" is " if same else " is not ") + other for one, other, same in tests]
    return ", ".join(told) if told else "otherwise"


def steps_text(steps):
    """Return the text of steps."""
    return ", ".join([target + " from " + source for target, source in steps]) if steps else "do nothing"


def read_line(row):
    """Return a tuple that is the line with a text, if there is one with it."""
    before, _, behind = row.partition(": ")
    lists = behind.removeprefix("ask ").split(" or ")
    tests = [] if before == "otherwise" else [read_test(part) for part in before.split(", ")]
    return (tuple(tests),) + tuple([read_steps(steps) for steps in lists])


def read_test(part):
    """Return the test with a text, or () if none has such a text."""
    words = part.split(" ")
    if len(words) == 4 and words[1:3] == ["is", "not"]:
        return words[0], words[3], False
    return (words[0], words[2], True) if len(words) == 3 and words[1] == "is" else ()


def read_steps(text):
    """Return the tuple of the steps with a text, among them () for a part that no step has as its text."""
    return () if text == "do nothing" else tuple([read_step(part) for part in text.split(", ")])


def read_step(part):
    """Return the step with a text, or () if none has such a text."""
    words = part.split(" ")
    return (words[0], words[2]) if len(words) == 3 and words[1] == "from" else ()
