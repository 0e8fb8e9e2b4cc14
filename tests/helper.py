"""What several tests need: sample rules, sample values, and a second reading of upgrades."""

import unittest

from stillmine import errors
from stillmine.files import File, standing
from stillmine.rules import Rule

UNTOUCHED = ((("here", "was", True),), (("here", "new"), ("was", "new")))
ARRIVED = ((("here", "new", True),), (("was", "new"),))
SAME = ((("new", "was", True),), ())
ASK = ((), (("here", "new"), ("was", "new")), (("was", "new"),))


class Equal(unittest.TestCase):
    """What tests of == ask."""

    def assert_equal_is(self, first, second, worth):
        with self.subTest(first=first, second=second):
            self.assertIs(first == second, worth)
            self.assertIs(second == first, worth)
            self.assertIs(first != second, not worth)


def asking_rule():
    """The rule of the document's examples: one note, and a question on the last line."""
    return Rule(["was"], [UNTOUCHED, ARRIVED, SAME, ASK])


def simple_rule():
    """Whatever comes is taken."""
    return Rule([], [((), (("here", "new"),))])


def rule_that(steps, *, keep=None, registers=()):
    """A rule with one line, which asks if it has steps for keep."""
    return Rule(registers, [((), steps) if keep is None else ((), steps, keep)])


def rule_of(registers, *rows):
    """A rule by short texts, a row for each line: tests with = and !, ":", and steps with <; "|" if it asks."""
    lines = []
    for row in rows:
        before, behind = row.split(":")
        tests = tuple((*test.replace("!", "=").split("="), "=" in test) for test in before.split())
        lines.append((tests, *(tuple(tuple(step.split("<")) for step in part.split()) for part in behind.split("|"))))
    return Rule(registers, lines)


def deep(kind):
    """A value nested 30 deep."""
    value = "x"
    for _ in range(30):
        value = {"k": value} if kind is dict else kind([value])
    return value


def any_values():
    """Values of all the kinds that point [1] lists, all of them made anew."""
    rule = asking_rule()
    file = File(rule)
    file.upgrade("a")
    return [
        0, 1, -1, 2, 3, 10 ** 59, -(10 ** 59), True, False, None,
        "", " ", "a", "was", "here", "take", "keep", "elder", "two\nlines", "~ !", "A", "x" * 9,
        (), ("a",), ("was",), (("here", "new"),), ((), ()), ([], []), (1, (True, None)), deep(tuple),
        [], ["a"], ["was"], [[]], [("here", "new", True)], [None, 1, "x", [{}]], deep(list),
        {}, {"a": 1}, {1: []}, {"here": "a", "was": {"x": ()}}, {(): ()}, deep(dict),
        rule, [rule], (rule,), {"rule": rule}, simple_rule(), file, [file, file], (file, [rule]),
        errors.UpgradeError(), errors.BadLine(0), [errors.NoPlace("x")],
    ]


def caught(call, *values, **named):
    """The error of the package that a call raises, or None."""
    try:
        call(*values, **named)
    except errors.UpgradeError as error:
        return error
    return None


def picture(file):
    """All that can be read off a file."""
    contents = [file.here] + [file[name] for name in file.rule.registers]
    return contents, file.last, file.mark, file.change, file.amid


def laid_again(file):
    """A file that stands as another one does, without its deeds."""
    contents, last, mark, change, amid = picture(file)
    return standing(file.rule, contents, last=last, mark=mark, mine=change[0] if change else None, amid=amid)


def retold(file, new, *, answer=None, stop=None, renaming=False):
    """Points [6] to [8] once more, in their own words: the troubles, and the picture behind an upgrade.

    It is written apart from the package, over names instead of tuples, so that both readings can be compared.
    """
    rule = file.rule
    at = {name: file[name] for name in rule.registers}
    at["here"] = file.here
    before_here, before_last, before_mark, before_amid = file.here, file.last, file.mark, file.amid
    mark, mine = file.mark, file.change[0] if file.change else None
    before_mine = mine
    if renaming:
        at["elder"], at["here"] = at["here"], None

    def worth(word):
        return new if word == "new" else None if word == "nothing" else at[word]

    number = 0
    while any((worth(a) == worth(b)) != same for a, b, same in rule.lines[number][0]):
        number += 1
    line = rule.lines[number]
    asked = len(line) == 3
    steps = line[1]
    if asked and answer == "take":
        mark = {"own": "free"}.get(mark, mark)
    elif asked:
        steps = line[2]
        if mark in ("none", "free"):
            mark, mine = "own", before_here
    whole = stop is None
    for target, source in list(steps) if whole else list(steps)[:stop]:
        at[target] = worth(source)
    troubles = {}
    troubles["needless"] = asked and any([
        before_mark == "none",
        before_mark == "own" and before_here != before_mine,
        before_here == new,
        before_last == new and not before_amid,
    ])
    spots = [at["here"]] + [at[place] for place in ("beside", "elder") if place in at]
    troubles["lost"] = mark == "own" and mine is not None and mine not in spots
    troubles["revived"] = mark == "own" and mine is None and at["here"] is not None
    if troubles["lost"] or troubles["revived"]:
        mark = "none"
    last = before_last
    if whole:
        if mark == "free" or mark == "own" and mine == new:
            mark = "none"
        last = new
    held = mark == "own"
    troubles["stale"] = whole and at["here"] != new and not (held and at["here"] == mine)
    elder = at.get("elder")
    troubles["left"] = whole and elder is not None and not (held and elder == mine)
    contents = [at["here"]] + [at[name] for name in rule.registers]
    told = [word for word in ("needless", "lost", "revived", "stale", "left") if troubles[word]]
    return told, (contents, last, mark, (mine,) if held else None, not whole)


# What the tests of patterns, tables, paths and pairs need. It asks files alone, not the package's own walks.

TROUBLES = ("needless", "lost", "revived", "stale", "left")
TEXTS_OF_NUMBERS = (None, "p", "q", "r", "s", "t", "u", "v", "w")


def moving_rule():
    """What was here before stays at elder until nobody holds on to it; a note has what came."""
    return Rule(["elder", "was"], [
        ((("here", "nothing", True), ("elder", "was", True)), (("elder", "nothing"), ("here", "new"), ("was", "new"))),
        ((("here", "was", True),), (("here", "new"), ("was", "new"))),
        ((), (("elder", "nothing"), ("here", "new"), ("was", "new")), (("elder", "here"), ("was", "new"))),
    ])


def beside_rule():
    """What comes is laid beside a changed file, without a question."""
    return Rule(["was", "beside"], [
        ((("here", "was", True),), (("here", "new"), ("beside", "nothing"), ("was", "new"))),
        ((("here", "new", True),), (("beside", "nothing"), ("was", "new"))),
        ((), (("beside", "new"), ("was", "new"))),
    ])


def wide_rule():
    """A rule with three registers that has a large table with stops."""
    return Rule(["beside", "elder", "was"], [
        ((("here", "was", True), ("new", "new", True)), (("elder", "nothing"), ("was", "new"), ("here", "new")),
         (("here", "new"), ("elder", "here"), ("was", "was"))),
        ((("new", "here", True),), (("was", "was"), ("was", "new"), ("here", "elder"), ("here", "beside")),
         (("was", "beside"), ("beside", "elder"), ("was", "nothing"))),
        ((), ()),
    ])


def sample_rules():
    """Rules of several kinds, with small tables."""
    return [simple_rule(), rule_that(()), rule_that((("here", "nothing"),), keep=(("here", "new"),)),
            asking_rule(), moving_rule(), beside_rule()]


def chance_rule(chance, registers):
    """A rule with some registers, by a random.Random with a seed."""
    def steps():
        targets, sources = ["here", *registers], ["here", "new", "new", "nothing", *registers]
        return tuple((chance.choice(targets), chance.choice(sources)) for _ in range(chance.randint(0, 3)))

    def tests():
        ones, others = ["here", "new", *registers], ["here", "new", "nothing", *registers]
        return tuple((chance.choice(ones), chance.choice(others), chance.random() < 0.7)
                     for _ in range(chance.randint(1, 2)))

    count = chance.randint(1, 4)
    return Rule(registers, [(tests() if position < count - 1 else (), *(steps() for _ in range(chance.choice((1, 2)))))
                            for position in range(count)])


def numbers_of(contents):
    """Numbers for contents, in the sequence in which texts first stand there; 0 for nothing."""
    texts = []
    for content in contents:
        if content is not None and content not in texts:
            texts.append(content)
    return tuple(0 if content is None else texts.index(content) + 1 for content in contents)


def contents_of(file):
    """The contents that a pattern has numbers for."""
    contents, last, _, change, _ = picture(file)
    return [*contents, last, change[0] if change else None]


def pattern_by_hand(file):
    """The pattern of a file by point [9]."""
    return numbers_of(contents_of(file)), file.mark, file.amid


def file_with(rule, pattern):
    """A file with a pattern, with the texts of TEXTS_OF_NUMBERS."""
    numbers, mark, amid = pattern
    contents = [TEXTS_OF_NUMBERS[number] for number in numbers]
    return standing(rule, contents[:-2], last=contents[-2], mark=mark, mine=contents[-1], amid=amid)


def contents_to_try(*files):
    """Nothing, the texts of some files, and one that is none of these."""
    texts = [content for file in files for content in contents_of(file) if content is not None]
    another = next(text for text in ("another" + "!" * count for count in range(len(texts) + 1)) if text not in texts)
    return [None, *dict.fromkeys(texts), another]


def deeds_by_hand(file, contents, stops):
    """All tuples (deed, troubles, file behind) with some contents, in the sequence in which steps_from tells them."""
    told = []
    for content in contents:
        if not file.amid and content != file.here:
            behind = file.fork()
            behind.edit(content)
            told.append((("edit", content), [], behind))
    for word in ("upgrade", "renamed")[:2 if "elder" in file.rule.registers else 1]:
        for content in contents:
            asked = isinstance(caught(getattr(file.fork(), word), content), errors.Unanswered)
            for answer in ("take", "keep") if asked else (None,):
                for stop in (0, 1, 2, 3, None) if stops else (None,):
                    behind = file.fork()
                    try:
                        troubles = getattr(behind, word)(content, answer=answer, stop=stop)
                    except errors.BadStop:
                        continue
                    told.append(((word, content, answer, stop), troubles, behind))
    return told


def files_by_hand(file, stops):
    """A dict from patterns to files: one of each pattern that deeds of a file lead to, its own among them."""
    found = {pattern_by_hand(file): file}
    waiting = [file]
    while waiting:
        here = waiting.pop()
        for _, _, behind in deeds_by_hand(here, contents_to_try(here), stops):
            if found.setdefault(pattern_by_hand(behind), behind) is behind:
                waiting.append(behind)
    return found


def distances_by_hand(file, stops):
    """A dict from troubles to the least numbers of deeds behind which a file can have them."""
    distances = {}
    level, seen, count = [file], {pattern_by_hand(file)}, 0
    while level:
        count += 1
        following = []
        for here in level:
            for _, troubles, behind in deeds_by_hand(here, contents_to_try(here), stops):
                for trouble in troubles:
                    distances.setdefault(trouble, count)
                pattern = pattern_by_hand(behind)
                if pattern not in seen:
                    seen.add(pattern)
                    following.append(behind)
        level = following
    return distances


def is_deed_by_hand(file, deed, stops):
    """Whether a value is a deed of a path for a file, by point [10]."""
    if not isinstance(deed, tuple) or len(deed) not in (2, 4):
        return False
    if not (deed[1] is None or isinstance(deed[1], str)) or isinstance(deed[-1], bool):
        return False
    return deed in [told[0] for told in deeds_by_hand(file, [deed[1]], stops)]


def do(file, deed):
    """Do a deed with a file; return its troubles."""
    if deed[0] == "edit":
        file.edit(deed[1])
        return []
    word, content, answer, stop = deed
    return getattr(file, word)(content, answer=answer, stop=stop)


def troubles_along(file, path, stops):
    """The troubles of the last deed if a value is a list of deeds that a file can have, otherwise None."""
    if not isinstance(path, list):
        return None
    troubles = []
    file = file.fork()
    for deed in path:
        if not is_deed_by_hand(file, deed, stops):
            return None
        troubles = do(file, deed)
    return troubles
