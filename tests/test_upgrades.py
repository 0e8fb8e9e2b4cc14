"""Points [6] to [8]: upgrades, renamings, stops, what comes behind the steps, and troubles."""

import itertools
import unittest

from helper import ARRIVED, SAME, UNTOUCHED, asking_rule, laid_again, picture, retold, rule_that, simple_rule
from stillmine.errors import BadStop
from stillmine.files import File, standing
from stillmine.rules import Rule

NEW = (("here", "new"),)


class Steps(unittest.TestCase):
    """Which line is taken, and that its steps are done one after the other."""

    def test_first_line_all_of_whose_tests_hold(self):
        rule = Rule(["was"], [
            ((("here", "new", True), ("was", "new", False)), (("here", "nothing"),)),
            ((("here", "new", True),), (("was", "nothing"),)),
            ((("was", "nothing", True),), (("was", "here"),)),
            ((), NEW),
        ])
        for contents, behind in ((["n", "a"], [None, "a"]), (["n", "n"], ["n", None]),
                                 (["a", None], ["a", "a"]), (["a", "b"], ["n", "b"])):
            file = standing(rule, contents)
            file.upgrade("n")
            self.assertEqual([file.here, file["was"]], behind)

    def test_a_line_without_tests_is_always_taken(self):
        rule = Rule([], [((), (("here", "nothing"),)), ((("here", "here", True),), NEW), ((), NEW)])
        file = standing(rule, ["a"])
        file.upgrade("n")
        self.assertIsNone(file.here)

    def test_tests_of_each_kind(self):
        held = {"here": "h", "new": "n", "was": None, "nothing": None}
        for one, other, same in itertools.product(("here", "new", "was"), held, (True, False)):
            rule = Rule(["was"], [(((one, other, same),), (("here", "nothing"),)), ((), ())])
            file = standing(rule, ["h", None])
            file.upgrade("n")
            holds = (held[one] == held[other]) == same
            self.assertEqual(file.here, None if holds else "h")

    def test_steps_of_each_kind(self):
        held = {"here": "h", "new": "n", "was": "w", "nothing": None}
        for target, source in itertools.product(("here", "was"), held):
            file = standing(rule_that(((target, source),), registers=["was"]), ["h", "w"])
            file.upgrade("n")
            self.assertEqual({"here": file.here, "was": file["was"]},
                             {"here": "h", "was": "w", target: held[source]})

    def test_a_later_step_sees_what_an_earlier_one_gave(self):
        rule = rule_that((("was", "here"), ("here", "new"), ("old", "was"), ("was", "here")), registers=["was", "old"])
        behind = [["a", "b", "c"], ["a", "a", "c"], ["n", "a", "c"], ["n", "a", "a"], ["n", "n", "a"]]
        for stop in (0, 1, 2, 3, None):
            file = standing(rule, ["a", "b", "c"])
            file.upgrade("n", stop=stop)
            self.assertEqual(picture(file)[0], behind[4 if stop is None else stop])
            self.assertIs(file.amid, stop is not None)

    def test_new_stays_new(self):
        rule = rule_that((("here", "nothing"), ("was", "new"), ("here", "was")), registers=["was"])
        file = standing(rule, ["a", "b"])
        self.assertEqual(file.upgrade("n"), [])
        self.assertEqual(picture(file), (["n", "n"], "n", "none", None, False))

    def test_each_answer_has_its_list(self):
        rule = rule_that((("here", "new"),), keep=(("was", "new"),), registers=["was"])
        for answer, behind in (("take", ["n", "b"]), ("keep", ["a", "n"])):
            file = standing(rule, ["a", "b"])
            file.upgrade("n", answer=answer)
            self.assertEqual(picture(file)[0], behind)

    def test_dropped(self):
        file = standing(simple_rule(), ["a"], last="a")
        self.assertEqual(file.upgrade(None), [])
        self.assertEqual(picture(file), ([None], None, "none", None, False))

    def test_nothing_tested_as_new(self):
        rule = Rule([], [((("new", "nothing", True),), ()), ((), NEW)])
        file = standing(rule, ["a"], last="a")
        self.assertEqual(file.upgrade(None), ["stale"])
        self.assertEqual(file.here, "a")


class Marks(unittest.TestCase):
    """What answers do to the mark and to mine."""

    def behind(self, mark, mine, answer, *, here="h", asks=True, stop=0):
        """The mark and the change behind an upgrade that moves nothing before it is stopped."""
        rule = rule_that((("here", "here"),), keep=(("here", "here"),) if asks else None)
        file = standing(rule, [here], last="l", mark=mark, mine=mine, amid=True)
        file.upgrade("n", answer=answer, stop=stop)
        return file.mark, file.change

    def test_take(self):
        self.assertEqual(self.behind("none", None, "take"), ("none", None))
        self.assertEqual(self.behind("own", "h", "take"), ("free", None))
        self.assertEqual(self.behind("own", None, "take", here=None), ("free", None))
        self.assertEqual(self.behind("free", None, "take"), ("free", None))

    def test_keep(self):
        self.assertEqual(self.behind("none", None, "keep"), ("own", ("h",)))
        self.assertEqual(self.behind("none", None, "keep", here=None), ("own", (None,)))
        self.assertEqual(self.behind("free", None, "keep"), ("own", ("h",)))
        self.assertEqual(self.behind("own", "h", "keep"), ("own", ("h",)))

    def test_keep_stays_with_the_content_of_own(self):
        rule = rule_that((), keep=(("here", "beside"),), registers=["beside"])
        file = standing(rule, ["x", "mine"], last="l", mark="own", mine="mine")
        self.assertEqual(file.upgrade("n", answer="keep"), ["needless"])
        self.assertEqual(file.change, ("mine",))

    def test_mine_is_what_was_here_before_the_steps(self):
        rule = rule_that((), keep=(("beside", "here"), ("here", "new")), registers=["beside"])
        file = standing(rule, ["h", None], last="l", mark="free", amid=True)
        self.assertEqual(file.upgrade("n", answer="keep"), [])
        self.assertEqual(picture(file), (["n", "h"], "n", "own", ("h",), False))

    def test_no_question_no_change_of_the_mark(self):
        for answer in (None, "take", "keep"):
            for mark, mine in (("none", None), ("own", "h"), ("free", None)):
                change = ("h",) if mark == "own" else None
                self.assertEqual(self.behind(mark, mine, answer, asks=False), (mark, change))

    def test_free_ends_with_a_whole_upgrade(self):
        for answer in (None, "take"):
            rule = rule_that(NEW, keep=None if answer is None else ())
            file = standing(rule, ["h"], last="l", mark="free", amid=True)
            self.assertEqual(file.upgrade("n", answer=answer, stop=0), [])
            self.assertEqual((file.mark, file.last), ("free", "l"))
            self.assertEqual(file.upgrade("n", answer=answer), [])
            self.assertEqual(picture(file), (["n"], "n", "none", None, False))

    def test_own_taken_whole(self):
        file = standing(rule_that(NEW, keep=()), ["h"], last="l", mark="own", mine="h")
        self.assertEqual(file.upgrade("n", answer="take"), [])
        self.assertEqual(picture(file), (["n"], "n", "none", None, False))

    def test_own_ends_if_mine_comes(self):
        for stop, mark, last in ((0, "own", "l"), (None, "none", "h")):
            file = standing(rule_that((("here", "here"),)), ["h"], last="l", mark="own", mine="h")
            self.assertEqual(file.upgrade("h", stop=stop), [])
            self.assertEqual((file.mark, file.last), (mark, last))

    def test_struck_ends_if_it_is_dropped(self):
        for stop, mark, last in ((0, "own", "l"), (None, "none", None)):
            file = standing(rule_that((("here", "here"),)), [None], last="l", mark="own", mine=None)
            self.assertEqual(file.upgrade(None, stop=stop), [])
            self.assertEqual((file.mark, file.last), (mark, last))

    def test_own_stays_if_something_else_comes(self):
        file = standing(rule_that(()), ["h"], last="l", mark="own", mine="h")
        self.assertEqual(file.upgrade("n"), [])
        self.assertEqual(picture(file), (["h"], "n", "own", ("h",), False))

    def test_last_only_by_whole_upgrades(self):
        file = File(rule_that((("here", "new"), ("here", "new"))))
        for stop in (0, 1):
            file.upgrade("a", stop=stop)
            self.assertIsNone(file.last)
            self.assertIs(file.amid, True)
        file.upgrade("b")
        self.assertEqual((file.last, file.amid), ("b", False))
        file.upgrade("c", stop=1)
        self.assertEqual((file.here, file.last, file.amid), ("c", "b", True))


class Needless(unittest.TestCase):
    RULE = rule_that((("here", "here"),), keep=(("here", "here"),))

    def is_needless(self, new, *, here="h", answer="take", rule=RULE, **named):
        """Whether a question is needless, also in a stopped upgrade."""
        told = [standing(rule, [here], **named).upgrade(new, answer=answer, stop=stop) for stop in (0, None)]
        self.assertEqual("needless" in told[0], "needless" in told[1])
        return "needless" in told[0]

    def test_with_the_mark_none(self):
        for answer in ("take", "keep"):
            for amid in (False, True):
                self.assertTrue(self.is_needless("n", answer=answer, last="l", mark="none", amid=amid))

    def test_not_with_a_change(self):
        for answer in ("take", "keep"):
            for amid in (False, True):
                self.assertFalse(self.is_needless("n", answer=answer, last="l", mark="own", mine="h", amid=amid))
                self.assertFalse(self.is_needless("n", here=None, answer=answer, last="l", mark="own", amid=amid))

    def test_not_with_the_mark_free(self):
        for answer in ("take", "keep"):
            self.assertFalse(self.is_needless("n", answer=answer, last="l", mark="free", amid=True))

    def test_here_is_not_mine(self):
        for answer in ("take", "keep"):
            self.assertTrue(self.is_needless("n", answer=answer, last="l", mark="own", mine="m"))
            self.assertTrue(self.is_needless("n", answer=answer, last="l", mark="own", mine=None))
            self.assertTrue(self.is_needless("n", here=None, answer=answer, last="l", mark="own", mine="m"))

    def test_here_is_new(self):
        for mark, mine in (("own", "h"), ("free", None)):
            for amid in (False, True):
                self.assertTrue(self.is_needless("h", last="l", mark=mark, mine=mine, amid=amid))
        self.assertTrue(self.is_needless(None, here=None, last="l", mark="own", mine=None))

    def test_last_is_new(self):
        for mark, mine in (("own", "h"), ("free", None)):
            self.assertTrue(self.is_needless("n", last="n", mark=mark, mine=mine))
            self.assertFalse(self.is_needless("n", last="n", mark=mark, mine=mine, amid=True))
        self.assertTrue(self.is_needless(None, last=None, mark="own", mine="h"))

    def test_only_if_it_asked(self):
        rule = rule_that((("here", "here"),))
        for answer in (None, "take", "keep"):
            self.assertFalse(self.is_needless("h", rule=rule, answer=answer, last="h", mark="none"))

    def test_before_the_steps(self):
        file = standing(rule_that(NEW, keep=()), ["h"], last="l", mark="own", mine="h")
        self.assertEqual(file.upgrade("n", answer="take"), [])

    def test_before_the_move_of_a_renaming(self):
        rule = rule_that((("elder", "nothing"), ("here", "new")), keep=(), registers=["elder"])
        file = standing(rule, ["h", None], last="l", mark="own", mine="h")
        self.assertEqual(file.renamed("n", answer="take"), [])
        file = standing(rule, ["h", None], last="l", mark="own", mine="h")
        self.assertEqual(file.renamed("h", answer="take"), ["needless"])
        file = standing(rule, ["h", None], last="l", mark="own", mine="h")
        self.assertEqual(file.renamed(None, answer="take"), [])


class LostAndRevived(unittest.TestCase):
    def told(self, steps, contents, new="n", *, registers=(), stop=None, mine="m", renaming=False):
        """The troubles and the file behind an upgrade of a file with a change."""
        file = standing(rule_that(steps, registers=registers), contents, last="l", mark="own", mine=mine)
        call = file.renamed if renaming else file.upgrade
        return call(new, stop=stop), file

    def test_lost(self):
        told, file = self.told(NEW, ["m"])
        self.assertEqual(told, ["lost"])
        self.assertEqual(picture(file), (["n"], "n", "none", None, False))

    def test_an_empty_text_can_be_lost(self):
        told, file = self.told(NEW, [""], mine="")
        self.assertEqual((told, file.mark), (["lost"], "none"))

    def test_lost_behind_a_stop(self):
        told, file = self.told((("here", "nothing"), ("here", "new")), ["m"], stop=1)
        self.assertEqual(told, ["lost"])
        self.assertEqual(picture(file), ([None], "l", "none", None, True))

    def test_not_lost_ahead_of_the_step_that_loses_it(self):
        told, file = self.told(NEW, ["m"], stop=0)
        self.assertEqual(told, [])
        self.assertEqual(picture(file), (["m"], "l", "own", ("m",), True))

    def test_places_hold_it_and_notes_do_not(self):
        for name, trouble in (("beside", []), ("was", ["lost"])):
            told, file = self.told(((name, "here"), ("here", "new")), ["m", None], registers=[name])
            self.assertEqual(told, trouble)
            self.assertEqual(file.change, None if trouble else ("m",))

    def test_elder_holds_it(self):
        told, file = self.told((("elder", "here"), ("here", "new")), ["m", None], registers=["elder"])
        self.assertEqual((told, file.change), ([], ("m",)))

    def test_one_of_several_places_is_enough(self):
        for at in (1, 2, 3):
            contents = ["x", None, None, None]
            contents[at] = "m"
            told, file = self.told(NEW, contents, registers=["elder", "was", "beside"])
            self.assertEqual(told, {1: [], 2: ["lost"], 3: []}[at])

    def test_lost_goes_ahead_of_mine_is_new(self):
        told, file = self.told((("here", "nothing"),), ["m"], new="m")
        self.assertEqual(told, ["lost", "stale"])
        self.assertEqual(picture(file), ([None], "m", "none", None, False))

    def test_revived(self):
        told, file = self.told(NEW, [None], mine=None)
        self.assertEqual(told, ["revived"])
        self.assertEqual(picture(file), (["n"], "n", "none", None, False))

    def test_revived_behind_a_stop(self):
        told, file = self.told((("here", "new"), ("here", "nothing")), [None], mine=None, stop=1)
        self.assertEqual(told, ["revived"])
        self.assertEqual(picture(file), (["n"], "l", "none", None, True))

    def test_not_revived_by_places(self):
        told, file = self.told((("beside", "new"),), [None, None], mine=None, registers=["beside"])
        self.assertEqual((told, file.change), ([], (None,)))

    def test_revived_with_an_empty_text(self):
        self.assertEqual(self.told(NEW, [None], new="", mine=None)[0], ["revived"])

    def test_nothing_lost_without_own(self):
        for mark in ("none", "free"):
            file = standing(simple_rule(), ["m"], last="l", mark=mark, mine="m", amid=True)
            self.assertEqual(file.upgrade("n"), [])

    def test_taking_gives_it_up(self):
        file = standing(rule_that(NEW + NEW, keep=()), ["m"], last="l", mark="own", mine="m")
        self.assertEqual(file.upgrade("n", answer="take", stop=1), [])
        self.assertEqual(picture(file), (["n"], "l", "free", None, True))

    def test_keeping_what_is_then_lost(self):
        file = standing(rule_that((), keep=NEW), ["h"], last="h")
        self.assertEqual(file.upgrade("n", answer="keep"), ["needless", "lost"])
        self.assertEqual(file.mark, "none")


class StaleAndLeft(unittest.TestCase):
    def test_stale(self):
        file = standing(rule_that(()), ["h"], last="h")
        self.assertEqual(file.upgrade("n"), ["stale"])
        self.assertEqual(picture(file), (["h"], "n", "none", None, False))

    def test_stale_with_nothing(self):
        self.assertEqual(standing(rule_that(()), [None]).upgrade("n"), ["stale"])
        self.assertEqual(standing(rule_that(()), ["h"]).upgrade(None), ["stale"])
        self.assertEqual(standing(rule_that(()), [None]).upgrade(None), [])
        self.assertEqual(standing(rule_that(()), [""]).upgrade(None), ["stale"])

    def test_not_stale(self):
        self.assertEqual(standing(rule_that(()), ["n"]).upgrade("n"), [])
        self.assertEqual(standing(rule_that(()), ["m"], mark="own", mine="m").upgrade("n"), [])
        self.assertEqual(standing(rule_that(()), [None], mark="own", mine=None, last="l").upgrade("n"), [])

    def test_a_change_that_does_not_lie_here(self):
        rule = rule_that((("beside", "here"), ("here", "nothing")), registers=["beside"])
        file = standing(rule, ["m", None], mark="own", mine="m", last="l")
        self.assertEqual(file.upgrade("n"), ["stale"])
        self.assertEqual(picture(file), ([None, "m"], "n", "own", ("m",), False))

    def test_a_change_that_was_given_up(self):
        rule = rule_that((), keep=())
        file = standing(rule, ["m"], mark="own", mine="m", last="l")
        self.assertEqual(file.upgrade("n", answer="take"), ["stale"])
        file = standing(rule, ["m"], mark="free", last="l", amid=True)
        self.assertEqual(file.upgrade("n", answer="take"), ["stale"])

    def test_neither_behind_a_stop(self):
        rule = rule_that((("here", "here"), ("here", "here")), registers=["elder"])
        for stop in (0, 1):
            file = standing(rule, ["h", "e"], last="h")
            self.assertEqual(file.upgrade("n", stop=stop), [])
            self.assertEqual(file.renamed("n", stop=stop), [])
        self.assertEqual(standing(rule, ["h", "e"], last="h").upgrade("n"), ["stale", "left"])

    def test_left(self):
        rule = rule_that(NEW, registers=["elder"])
        self.assertEqual(standing(rule, ["h", "e"]).upgrade("n"), ["left"])
        self.assertEqual(standing(rule, ["h", ""]).upgrade("n"), ["left"])
        self.assertEqual(standing(rule, ["h", "n"]).upgrade("n"), ["left"])
        self.assertEqual(standing(rule, ["h", None]).upgrade("n"), [])
        self.assertEqual(standing(rule, ["h", "m"], mark="own", mine="m").upgrade("n"), [])
        self.assertEqual(standing(rule, ["h", "m"], mark="own", mine="m").upgrade("m"), ["left"])
        self.assertEqual(standing(rule, ["h", "m"], mark="free", amid=True).upgrade("n"), ["left"])

    def test_other_registers_are_not_left(self):
        rule = rule_that(NEW, registers=["beside", "old"])
        self.assertEqual(standing(rule, ["h", "b", "o"]).upgrade("n"), [])

    def test_elder_left_with_a_strike(self):
        rule = rule_that((), registers=["elder"])
        self.assertEqual(standing(rule, [None, "e"], last="l", mark="own", mine=None).upgrade("n"), ["left"])


class Renamings(unittest.TestCase):
    def test_the_move(self):
        rule = rule_that((("here", "new"), ("elder", "nothing")), registers=["was", "elder"])
        behind = {0: [None, "b", "a"], 1: ["n", "b", "a"], None: ["n", "b", None]}
        for stop, contents in behind.items():
            file = standing(rule, ["a", "b", "c"], last="l")
            self.assertEqual(file.renamed("n", stop=stop), [])
            self.assertEqual(picture(file)[0], contents)
            self.assertEqual((file.last, file.amid), ("n" if stop is None else "l", stop is not None))

    def test_the_line_is_taken_behind_the_move(self):
        rule = Rule(["elder"], [
            ((("here", "nothing", True), ("elder", "new", True)), (("here", "elder"), ("elder", "nothing"))),
            ((("here", "nothing", True),), (("elder", "nothing"), ("here", "new"))),
            ((), ()),
        ])
        file = standing(rule, ["n", "e"], last="l")
        self.assertEqual(file.renamed("n"), [])
        self.assertEqual(picture(file)[0], ["n", None])
        file = standing(rule, ["h", "n"], last="l")
        self.assertEqual(file.renamed("n"), [])
        self.assertEqual(picture(file)[0], ["n", None])

    def test_left_and_stale(self):
        rule = rule_that((), registers=["elder"])
        file = standing(rule, ["h", None], last="h")
        self.assertEqual(file.renamed("n"), ["stale", "left"])
        self.assertEqual(picture(file), ([None, "h"], "n", "none", None, False))

    def test_a_change_stands_at_elder(self):
        rule = rule_that(NEW, registers=["elder"])
        file = standing(rule, ["m", None], last="l", mark="own", mine="m")
        self.assertEqual(file.renamed("n"), [])
        self.assertEqual(picture(file), (["n", "m"], "n", "own", ("m",), False))

    def test_what_elder_held_is_lost(self):
        rule = rule_that(NEW, registers=["elder"])
        file = standing(rule, ["x", "m"], last="l", mark="own", mine="m")
        self.assertEqual(file.renamed("n", stop=0), ["lost"])
        self.assertEqual(picture(file), ([None, "x"], "l", "none", None, True))

    def test_keep_holds_on_to_what_was_here_before_the_move(self):
        rule = rule_that((), keep=(("here", "elder"), ("elder", "nothing")), registers=["elder"])
        file = standing(rule, ["h", None], last="l", mark="free", amid=True)
        self.assertEqual(file.renamed("n", answer="keep"), [])
        self.assertEqual(picture(file), (["h", None], "n", "own", ("h",), False))

    def test_a_strike_is_moved(self):
        rule = rule_that(NEW, registers=["elder"])
        file = standing(rule, [None, None], last="l", mark="own", mine=None)
        self.assertEqual(file.renamed("n", stop=0), [])
        self.assertEqual(picture(file), ([None, None], "l", "own", (None,), True))
        self.assertEqual(file.renamed("n"), ["revived"])

    def test_twice_amid(self):
        rule = rule_that((("here", "new"), ("elder", "nothing")), registers=["elder"])
        file = standing(rule, ["h", None], last="h")
        self.assertEqual(file.renamed("n", stop=1), [])
        self.assertEqual(picture(file)[0], ["n", "h"])
        self.assertEqual(file.renamed("k", stop=0), [])
        self.assertEqual(picture(file), ([None, "n"], "h", "none", None, True))
        self.assertEqual(file.upgrade("k"), [])
        self.assertEqual(picture(file), (["k", None], "k", "none", None, False))


class Troubles(unittest.TestCase):
    """Their sequence, and that the list is new."""

    def test_sequence(self):
        rule = rule_that((("here", "nothing"),), keep=(("here", "nothing"),), registers=["elder"])
        file = standing(rule, ["h", "e"], last="l", mark="own", mine="m")
        self.assertEqual(file.upgrade("n", answer="keep"), ["needless", "lost", "stale", "left"])
        rule = rule_that((), keep=(("here", "elder"),), registers=["elder"])
        file = standing(rule, [None, "e"], last="n", mark="own", mine=None)
        self.assertEqual(file.upgrade("n", answer="keep"), ["needless", "revived", "stale", "left"])

    def test_a_new_list(self):
        rule = rule_that(())
        first = File(rule).upgrade(None)
        first.append("x")
        self.assertEqual(File(rule).upgrade(None), [])
        second = standing(rule, ["h"]).upgrade("n")
        second.clear()
        self.assertEqual(standing(rule, ["h"]).upgrade("n"), ["stale"])

    def test_a_path_of_the_rule_of_the_examples(self):
        file = File(asking_rule())
        self.assertEqual([file.upgrade("a"), file.upgrade("b"), file.here, file["was"]], [[], [], "b", "b"])
        file.edit(None)
        self.assertEqual([file.upgrade("b"), file.here, file.change], [[], None, (None,)])
        self.assertEqual([file.upgrade("c", answer="keep"), file.here, file["was"]], [[], None, "c"])
        self.assertEqual([file.upgrade(None), file.here, file["was"]], [[], None, None])
        self.assertEqual([file.change, file.last], [None, None])
        self.assertEqual([file.upgrade("d"), file.here, file["was"], file.mark], [[], "d", "d", "none"])


class SecondReading(unittest.TestCase):
    """The package against the second reading of [6] to [8] in the helper, from very many states."""

    RULES = (
        asking_rule(),
        rule_that((("here", "new"), ("elder", "nothing")), keep=(("here", "elder"), ("elder", "new")),
                  registers=["elder"]),
        Rule(["beside"], [
            ((("here", "new", True), ("beside", "nothing", False)), (("beside", "nothing"),), (("here", "beside"),)),
            ((("here", "beside", False),), (("beside", "here"), ("here", "new"))),
            ((), (("here", "nothing"),), (("beside", "new"), ("here", "beside"), ("beside", "nothing"))),
        ]),
        Rule(["elder", "was"], [
            UNTOUCHED,
            ((("elder", "was", True), ("here", "nothing", True)),
             (("here", "new"), ("was", "new"), ("elder", "nothing"))),
            ARRIVED,
            SAME,
            ((), (("was", "new"), ("here", "was")), (("here", "elder"), ("elder", "nothing"))),
        ]),
    )

    def states(self, rule):
        """All files of a rule with few contents."""
        for contents in itertools.product((None, "a", "b"), repeat=len(rule.registers) + 1):
            for last, mark, amid in itertools.product((None, "a", "b"), ("none", "own", "free"), (False, True)):
                for mine in (None, "a", "b", "c") if mark == "own" else (None,):
                    yield standing(rule, list(contents), last=last, mark=mark, mine=mine, amid=amid)

    def assert_same(self, file, new, answer, renaming):
        """Compare both readings for each stop."""
        stop = None
        while True:
            told = retold(file, new, answer=answer, stop=stop, renaming=renaming)
            other = file.fork()
            call = other.renamed if renaming else other.upgrade
            try:
                troubles = call(new, answer=answer, stop=stop)
            except BadStop:
                return
            if (troubles, picture(other)) != told:
                self.fail((picture(file), new, answer, stop, renaming, troubles, picture(other), told))
            if other != laid_again(other):
                self.fail(("equal files should be equal, whichever way they went", picture(other)))
            self.compared += 1
            stop = 0 if stop is None else stop + 1

    def test_all(self):
        for rule in self.RULES:
            self.compared = 0
            for file in self.states(rule):
                for new, answer in itertools.product((None, "a", "b", "d"), ("take", "keep")):
                    self.assert_same(file, new, answer, False)
                    if "elder" in rule.registers:
                        self.assert_same(file, new, answer, True)
            self.assertGreater(self.compared, 5000)


if __name__ == "__main__":
    unittest.main()
