"""What several tests need: sample rules, sample values, and a second reading of upgrades."""

import unittest

from stillmine import errors
from stillmine.files import File, standing
from stillmine.rules import Rule

UNTOUCHED = ((("here", "was", True),), (("here", "new"), ("was", "new")))
ARRIVED = ((("here", "new", True),), (("was", "new"),))
SAME = ((("new", "was", True),), ())
ASK = ((), (("here", "new"), ("was", "new")), (("was", "new"),))


class Equal(unittest.TestCase):
    """What tests of == ask."""

    def assert_equal_is(self, first, second, worth):
        with self.subTest(first=first, second=second):
            self.assertIs(first == second, worth)
            self.assertIs(second == first, worth)
            self.assertIs(first != second, not worth)


def asking_rule():
    """The rule of the document's examples: one note, and a question on the last line."""
    return Rule(["was"], [UNTOUCHED, ARRIVED, SAME, ASK])


def simple_rule():
    """Whatever comes is taken."""
    return Rule([], [((), (("here", "new"),))])


def rule_that(steps, *, keep=None, registers=()):
    """A rule with one line, which asks if it has steps for keep."""
    return Rule(registers, [((), steps) if keep is None else ((), steps, keep)])


def deep(kind):
    """A value nested 30 deep."""
    value = "x"
    for _ in range(30):
        value = {"k": value} if kind is dict else kind([value])
    return value


def any_values():
    """Values of all the kinds that point [1] lists, all of them made anew."""
    rule = asking_rule()
    file = File(rule)
    file.upgrade("a")
    return [
        0, 1, -1, 2, 3, 10 ** 59, -(10 ** 59), True, False, None,
        "", " ", "a", "was", "here", "take", "keep", "elder", "two\nlines", "~ !", "A", "x" * 9,
        (), ("a",), ("was",), (("here", "new"),), ((), ()), ([], []), (1, (True, None)), deep(tuple),
        [], ["a"], ["was"], [[]], [("here", "new", True)], [None, 1, "x", [{}]], deep(list),
        {}, {"a": 1}, {1: []}, {"here": "a", "was": {"x": ()}}, {(): ()}, deep(dict),
        rule, [rule], (rule,), {"rule": rule}, simple_rule(), file, [file, file], (file, [rule]),
        errors.UpgradeError(), errors.BadLine(0), [errors.NoPlace("x")],
    ]


def caught(call, *values, **named):
    """The error of the package that a call raises, or None."""
    try:
        call(*values, **named)
    except errors.UpgradeError as error:
        return error
    return None


def picture(file):
    """All that can be read off a file."""
    contents = [file.here] + [file[name] for name in file.rule.registers]
    return contents, file.last, file.mark, file.change, file.amid


def laid_again(file):
    """A file that stands as another one does, without its deeds."""
    contents, last, mark, change, amid = picture(file)
    return standing(file.rule, contents, last=last, mark=mark, mine=change[0] if change else None, amid=amid)


def retold(file, new, *, answer=None, stop=None, renaming=False):
    """Points [6] to [8] once more, in their own words: the troubles, and the picture behind an upgrade.

    It is written apart from the package, over names instead of tuples, so that both readings can be compared.
    """
    rule = file.rule
    at = {name: file[name] for name in rule.registers}
    at["here"] = file.here
    before_here, before_last, before_mark, before_amid = file.here, file.last, file.mark, file.amid
    mark, mine = file.mark, file.change[0] if file.change else None
    before_mine = mine
    if renaming:
        at["elder"], at["here"] = at["here"], None

    def worth(word):
        return new if word == "new" else None if word == "nothing" else at[word]

    number = 0
    while any((worth(a) == worth(b)) != same for a, b, same in rule.lines[number][0]):
        number += 1
    line = rule.lines[number]
    asked = len(line) == 3
    steps = line[1]
    if asked and answer == "take":
        mark = {"own": "free"}.get(mark, mark)
    elif asked:
        steps = line[2]
        if mark in ("none", "free"):
            mark, mine = "own", before_here
    whole = stop is None
    for target, source in list(steps) if whole else list(steps)[:stop]:
        at[target] = worth(source)
    troubles = {}
    troubles["needless"] = asked and any([
        before_mark == "none",
        before_mark == "own" and before_here != before_mine,
        before_here == new,
        before_last == new and not before_amid,
    ])
    spots = [at["here"]] + [at[place] for place in ("beside", "elder") if place in at]
    troubles["lost"] = mark == "own" and mine is not None and mine not in spots
    troubles["revived"] = mark == "own" and mine is None and at["here"] is not None
    if troubles["lost"] or troubles["revived"]:
        mark = "none"
    last = before_last
    if whole:
        if mark == "free" or mark == "own" and mine == new:
            mark = "none"
        last = new
    held = mark == "own"
    troubles["stale"] = whole and at["here"] != new and not (held and at["here"] == mine)
    elder = at.get("elder")
    troubles["left"] = whole and elder is not None and not (held and elder == mine)
    contents = [at["here"]] + [at[name] for name in rule.registers]
    told = [word for word in ("needless", "lost", "revived", "stale", "left") if troubles[word]]
    return told, (contents, last, mark, (mine,) if held else None, not whole)
