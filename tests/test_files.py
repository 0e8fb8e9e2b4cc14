"""Points [1], [4] and [5]: files, what can be read off them, edits, and what is refused."""

import unittest

from helper import ASK, Equal, any_values, asking_rule, caught, laid_again, picture, rule_that, simple_rule
from stillmine import files
from stillmine.errors import BadAnswer, BadContent, BadStop, NoPlace, StillAmid, Unanswered
from stillmine.files import File, standing
from stillmine.rules import Rule

TWO_STEPS = (("here", "new"), ("elder", "nothing"))
TEXTS = ("", " ", "\n", "a", "two\nlines\n", "".join(chr(code) for code in range(32, 127)))
NO_TEXTS = ("\t", "a\rb", "\x00", "\x1f", "\x7f", "\u00e9", "\u2028")


def elder_rule(keep=None):
    """A rule with a place elder, that asks if it has steps for keep."""
    return rule_that(TWO_STEPS, keep=keep, registers=["elder"])


class NewFiles(unittest.TestCase):
    def test_nothing_at_first(self):
        for registers in ([], ["was"], ["beside", "old", "elder"]):
            rule = Rule(registers, [((), ())])
            file = File(rule)
            self.assertEqual(picture(file), ([None] * (len(registers) + 1), None, "none", None, False))
            self.assertIs(file.amid, False)
            self.assertEqual(file.rule, rule)

    def test_by_name(self):
        self.assertEqual(File(rule=simple_rule()), File(simple_rule()))

    def test_in_the_body_of_the_class(self):
        for name in ("here", "amid", "change", "rule", "last", "mark"):
            self.assertIsInstance(vars(File)[name], property)
        for name in ("__init__", "__getitem__", "__eq__", "edit", "upgrade", "renamed", "fork"):
            self.assertTrue(callable(vars(File)[name]))
        self.assertEqual((File.__module__, standing.__module__), (files.__name__, files.__name__))


class Edits(unittest.TestCase):
    def test_a_change(self):
        file = standing(asking_rule(), ["a", "b"], last="c")
        self.assertIsNone(file.edit("d"))
        self.assertEqual(picture(file), (["d", "b"], "c", "own", ("d",), False))

    def test_striking(self):
        file = standing(asking_rule(), ["a", "b"], last="c")
        self.assertIsNone(file.edit(None))
        self.assertEqual(picture(file), ([None, "b"], "c", "own", (None,), False))

    def test_back_to_last(self):
        for here, last in (("a", "c"), (None, "c"), ("a", None), ("a", "")):
            for mark, mine in (("own", here), ("own", "x"), ("none", None), ("free", None)):
                file = standing(asking_rule(), [here, "b"], last=last, mark=mark, mine=mine)
                self.assertIsNone(file.edit(last))
                self.assertEqual(picture(file), ([last, "b"], last, "none", None, False))
                self.assertEqual(file, laid_again(file))

    def test_what_lies_here_already_changes_nothing(self):
        for here, last in (("a", "c"), ("a", "a"), (None, None), (None, "c"), ("", None)):
            for mark, mine in (("own", here), ("own", "x"), ("own", None), ("none", None), ("free", None)):
                file = standing(asking_rule(), [here, "b"], last=last, mark=mark, mine=mine)
                before = picture(file)
                self.assertIsNone(file.edit(here))
                self.assertEqual(picture(file), before)

    def test_a_change_gives_up_the_one_before(self):
        for mark, mine in (("own", "a"), ("own", None), ("own", "x"), ("none", None), ("free", None)):
            file = standing(asking_rule(), ["a", "b"], last="c", mark=mark, mine=mine)
            file.edit("d")
            self.assertEqual(picture(file), (["d", "b"], "c", "own", ("d",), False))
            self.assertEqual(file, laid_again(file))

    def test_empty_text_is_not_nothing(self):
        file = File(simple_rule())
        file.edit("")
        self.assertEqual(picture(file), ([""], None, "own", ("",), False))
        file.edit(None)
        self.assertEqual(picture(file), ([None], None, "none", None, False))

    def test_edits_of_a_new_file(self):
        file = File(simple_rule())
        file.edit(None)
        self.assertEqual(picture(file), ([None], None, "none", None, False))
        file.edit("a")
        self.assertEqual(file.change, ("a",))
        file.edit("b")
        self.assertEqual(file.change, ("b",))

    def test_every_text(self):
        for text in TEXTS:
            file = File(simple_rule())
            file.edit(content=text)
            self.assertEqual((file.here, file.change), (text, (text,)))

    def test_bad_content(self):
        for value in [*any_values(), *NO_TEXTS]:
            if value is not None and (not isinstance(value, str) or value in NO_TEXTS):
                for amid in (False, True):
                    file = standing(asking_rule(), ["a", "b"], last="b", mark="own", mine="a", amid=amid)
                    before = picture(file)
                    error = caught(file.edit, value)
                    self.assertIsInstance(error, BadContent)
                    self.assertIs(error.value, value)
                    self.assertEqual(picture(file), before)

    def test_amid_there_are_none(self):
        for content in ("a", "b", "x", None):
            file = standing(asking_rule(), ["a", "b"], last="b", mark="own", mine="a", amid=True)
            before = picture(file)
            error = caught(file.edit, content)
            self.assertIsInstance(error, StillAmid)
            self.assertIs(error.content, content)
            self.assertEqual(picture(file), before)

    def test_again_behind_a_whole_upgrade(self):
        file = File(elder_rule())
        file.upgrade("a", stop=1)
        self.assertIsInstance(caught(file.edit, "b"), StillAmid)
        file.upgrade("a")
        self.assertIsNone(caught(file.edit, "b"))
        self.assertEqual(file.change, ("b",))


class Reading(unittest.TestCase):
    def test_registers(self):
        file = standing(Rule(["was", "beside", "elder"], [((), ())]), ["a", "b", None, "d"])
        self.assertEqual([file.here, file["was"], file["beside"], file["elder"]], ["a", "b", None, "d"])

    def test_no_place(self):
        file = standing(asking_rule(), ["a", "b"])
        for value in [*any_values(), "new", "nothing", "beside", "rule", 0, ("was",), ["was"]]:
            if value != "was":
                with self.subTest(value):
                    error = caught(file.__getitem__, value)
                    self.assertIsInstance(error, NoPlace)
                    self.assertIs(error.place, value)
        self.assertIsInstance(caught(lambda: File(simple_rule())["was"]), NoPlace)

    def test_change(self):
        for mark, change in (("none", None), ("free", None), ("own", ("a",))):
            self.assertEqual(standing(asking_rule(), ["a", "b"], mark=mark, mine="a").change, change)
        self.assertEqual(standing(asking_rule(), ["a", "b"], mark="own").change, (None,))

    def test_last_and_mark(self):
        file = standing(asking_rule(), ["a", "b"], last="c", mark="free", amid=True)
        self.assertEqual((file.last, file.mark, file.amid), ("c", "free", True))

    def test_a_file_is_no_row_of_contents(self):
        self.assertRaises(TypeError, list, standing(asking_rule(), ["a", "b"]))

    def test_properties_are_only_read(self):
        file = standing(asking_rule(), ["a", "b"])
        for name in ("here", "last", "mark", "rule", "amid", "change"):
            self.assertRaises(AttributeError, setattr, file, name, "x")


class Refusing(unittest.TestCase):
    """Each refusal of upgrade and renamed, and that nothing is changed by it."""

    def assert_refused(self, file, kind, value, call, content, **named):
        before = picture(file)
        with self.subTest(content=content, **named):
            error = caught(call, content, **named)
            self.assertIs(type(error), kind)
            (kept,) = vars(error).values()
            if isinstance(kept, int):
                self.assertEqual((kept, type(kept)), (value, type(value)))
            else:
                self.assertIs(kept, value)
            self.assertEqual(picture(file), before)

    def both(self, rule, contents=("a", "b"), **named):
        """A file, and its two calls."""
        file = standing(rule, list(contents), **named)
        return [(file, file.upgrade), (file, file.renamed)]

    def test_bad_content(self):
        for file, call in self.both(elder_rule(()), mark="own", mine="a", last="b"):
            for value in [*any_values(), *NO_TEXTS]:
                if value is not None and (not isinstance(value, str) or value in NO_TEXTS):
                    self.assert_refused(file, BadContent, value, call, value, answer="keep")
                    self.assert_refused(file, BadContent, value, call, value, answer="x", stop="x")
                    self.assert_refused(file, BadContent, value, call, value)

    def test_every_text(self):
        for text in TEXTS:
            for file, call in self.both(elder_rule()):
                self.assertEqual(call(text), [])
                self.assertEqual((file.here, file.last), (text, text))

    def test_bad_answer(self):
        for keep in (None, ()):
            for file, call in self.both(elder_rule(keep), mark="own", mine="a", last="b", amid=True):
                for value in [*any_values(), "Take", "take ", "keeps", ("take",), ["keep"]]:
                    if value is not None and value not in ("take", "keep"):
                        self.assert_refused(file, BadAnswer, value, call, "c", answer=value)
                        self.assert_refused(file, BadAnswer, value, call, "c", answer=value, stop="x")

    def test_bad_answer_goes_ahead_of_no_place(self):
        file = standing(asking_rule(), ["a", "b"])
        self.assert_refused(file, BadAnswer, "x", file.renamed, "c", answer="x", stop="x")

    def test_no_elder(self):
        for registers in ([], ["was"], ["beside", "older"]):
            file = standing(rule_that((), keep=(), registers=registers), ["a"] * (len(registers) + 1))
            for named in ({}, {"answer": "take"}, {"stop": "x"}, {"answer": "keep", "stop": -1}):
                before = picture(file)
                error = caught(file.renamed, "c", **named)
                self.assertIsInstance(error, NoPlace)
                self.assertEqual(error.place, "elder")
                self.assertEqual(picture(file), before)
            self.assertIsNone(caught(file.upgrade, "c", answer="take"))

    def test_no_elder_behind_bad_content(self):
        file = standing(asking_rule(), ["a", "b"])
        self.assert_refused(file, BadContent, 5, file.renamed, 5)

    def test_unanswered(self):
        for file, call in self.both(elder_rule(()), mark="own", mine="a"):
            for stop in (None, 0, 1, 5, -1, "x", True, []):
                self.assert_refused(file, Unanswered, 0, call, "c", stop=stop)

    def test_position_of_the_line_that_asks(self):
        quiet = ((("new", "nothing", True),), ())
        asking = ((("here", "nothing", True),), (("here", "new"),), ())
        rule = Rule(["elder"], [quiet, asking, quiet, ((), (), ())])
        for here, call_name, position in (("a", "upgrade", 3), (None, "upgrade", 1), ("a", "renamed", 1)):
            file = standing(rule, [here, None])
            self.assert_refused(file, Unanswered, position, getattr(file, call_name), "c")
            self.assertIsNone(caught(getattr(file, call_name), None))

    def test_bad_stop(self):
        for keep, answer, size in ((None, None, 2), (None, "keep", 2), ((), "take", 2), ((), "keep", 0),
                                   ((("here", "here"),) * 4, "keep", 4)):
            for file, call in self.both(elder_rule(keep), mark="own", mine="a", last="c"):
                for value in any_values():
                    right = isinstance(value, int) and not isinstance(value, bool) and 0 <= value < size
                    if value is not None and not right:
                        self.assert_refused(file, BadStop, value, call, "c", answer=answer, stop=value)
                for value in range(size, size + 3):
                    self.assert_refused(file, BadStop, value, call, "c", answer=answer, stop=value)

    def test_bools_are_no_stops(self):
        for file, call in self.both(elder_rule()):
            self.assert_refused(file, BadStop, True, call, "c", stop=True)
            self.assert_refused(file, BadStop, False, call, "c", stop=False)

    def test_every_right_stop(self):
        steps = (("here", "nothing"), ("here", "new"), ("elder", "new"), ("elder", "nothing"))
        for size in range(1, 5):
            for stop in range(size):
                for file, call in self.both(rule_that(steps[:size], registers=["elder"])):
                    self.assertIsNone(caught(call, "c", stop=stop))
                    self.assertIs(file.amid, True)

    def test_stops_are_counted_in_the_list_of_the_answer(self):
        rule = rule_that((("here", "new"),), keep=(("was", "new"), ("was", "here")), registers=["was"])
        file = standing(rule, ["a", "b"], last="b", mark="own", mine="a")
        self.assert_refused(file, BadStop, 1, file.upgrade, "c", answer="take", stop=1)
        self.assertEqual(file.upgrade("c", answer="keep", stop=1), [])
        self.assertEqual([file.here, file["was"]], ["a", "c"])

    def test_an_answer_to_no_question_counts_for_nothing(self):
        for answer in (None, "take", "keep"):
            for mark, mine in (("none", None), ("own", "a"), ("free", None)):
                for call_name in ("upgrade", "renamed"):
                    plain, file = (standing(elder_rule(), ["a", "a"], last="b", mark=mark, mine=mine)
                                   for _ in range(2))
                    self.assertEqual(getattr(file, call_name)("c", answer=answer, stop=1),
                                     getattr(plain, call_name)("c", stop=1))
                    self.assertEqual(picture(file), picture(plain))

    def test_by_name_and_by_place(self):
        file = File(elder_rule())
        self.assertEqual(file.upgrade(content="a", answer=None, stop=1), [])
        self.assertEqual(file.renamed(content="a", answer="take", stop=None), [])
        for call in (file.upgrade, file.renamed):
            self.assertRaises(TypeError, call)
            self.assertRaises(TypeError, call, "a", "take")
            self.assertRaises(TypeError, call, "a", None, None)


class Forks(unittest.TestCase):
    def test_goes_its_own_way(self):
        file = standing(asking_rule(), ["a", "b"], last="c", mark="own", mine="a", amid=True)
        before = picture(file)
        other = file.fork()
        self.assertIsNot(other, file)
        self.assertEqual(picture(other), before)
        self.assertIs(other == file, True)
        other.upgrade("d", answer="take")
        self.assertEqual(picture(file), before)
        self.assertIs(other == file, False)
        file.upgrade("d", answer="take")
        self.assertIs(other == file, True)
        other.edit("x")
        self.assertEqual(file.here, "d")


class Equality(Equal):
    def test_equal_files(self):
        self.assert_equal_is(File(asking_rule()), File(asking_rule()), True)
        for mark in ("none", "own", "free"):
            first, second = (standing(asking_rule(), ["a", "b"], last="c", mark=mark, mine="d", amid=True)
                             for _ in range(2))
            self.assert_equal_is(first, second, True)

    def test_any_way_to_it_is_the_same(self):
        first, second = File(simple_rule()), File(simple_rule())
        first.upgrade("a")
        second.upgrade("b")
        second.edit("c")
        second.upgrade("a")
        self.assert_equal_is(first, second, True)

    def test_each_difference(self):
        rule = asking_rule()
        named = {"last": "c", "mark": "own", "mine": "a", "amid": False}
        file = standing(rule, ["a", "b"], **named)
        for contents in (["x", "b"], ["a", "x"], ["a", None], [None, "b"], ["b", "a"]):
            self.assert_equal_is(file, standing(rule, contents, **named), False)
        for name, worth in (("last", "x"), ("last", None), ("mine", "x"), ("mine", None), ("amid", True),
                            ("mark", "none"), ("mark", "free")):
            self.assert_equal_is(file, standing(rule, ["a", "b"], **{**named, name: worth}), False)
        free = standing(rule, ["a", "b"], last="c", mark="free")
        self.assert_equal_is(free, standing(rule, ["a", "b"], last="c"), False)
        self.assert_equal_is(file, standing(Rule(["was"], [ASK]), ["a", "b"], **named), False)
        self.assert_equal_is(file, standing(Rule(["old"], [((), ())]), ["a", "b"], **named), False)

    def test_empty_text_is_not_nothing(self):
        rule = simple_rule()
        self.assert_equal_is(standing(rule, [""]), standing(rule, [None]), False)
        self.assert_equal_is(standing(rule, ["a"], last=""), standing(rule, ["a"]), False)

    def test_any_value(self):
        file = standing(simple_rule(), ["x"])
        for value in any_values() + [simple_rule(), "x", (("x",), None, "none", None, False)]:
            self.assert_equal_is(file, value, False)


class Standing(unittest.TestCase):
    def test_what_is_left_out(self):
        file = standing(asking_rule(), ["a", "b"])
        self.assertEqual(picture(file), (["a", "b"], None, "none", None, False))
        self.assertIs(file.amid, False)

    def test_with_all(self):
        file = standing(rule=asking_rule(), contents=["a", "b"], last="c", mark="own", mine="d", amid=True)
        self.assertIsInstance(file, File)
        self.assertEqual(picture(file), (["a", "b"], "c", "own", ("d",), True))
        self.assertEqual(file.rule, asking_rule())

    def test_by_name_behind_the_star(self):
        self.assertRaises(TypeError, standing, asking_rule(), ["a", "b"], "c")
        self.assertRaises(TypeError, standing, asking_rule())

    def test_mine_counts_with_own_alone(self):
        for mark in ("none", "free"):
            file = standing(asking_rule(), ["a", "b"], mark=mark, mine="a", amid=True)
            self.assertIsNone(file.change)
            self.assertEqual(file, standing(asking_rule(), ["a", "b"], mark=mark, amid=True))
            self.assertEqual(file, standing(asking_rule(), ["a", "b"], mark=mark, mine="x", amid=True))

    def test_new_file(self):
        self.assertEqual(standing(asking_rule(), [None, None]), File(asking_rule()))

    def test_contents_are_copied_and_not_changed(self):
        contents = ["a", "b"]
        file = standing(asking_rule(), contents)
        file.upgrade("c", answer="take")
        self.assertEqual(contents, ["a", "b"])
        other = standing(asking_rule(), contents)
        contents[0] = "x"
        contents.append("y")
        self.assertEqual([other.here, other["was"]], ["a", "b"])
        self.assertEqual(other, standing(asking_rule(), ["a", "b"]))

    def test_it_goes_on(self):
        file = standing(asking_rule(), ["g", "f"], last="f", mark="own", mine="g")
        self.assertEqual(file.upgrade("h", answer="keep"), [])
        self.assertEqual(picture(file), (["g", "h"], "h", "own", ("g",), False))


if __name__ == "__main__":
    unittest.main()
