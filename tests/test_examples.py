"""The examples of the document, word for word."""

import unittest

STAGE_1 = '''
    >>> from stillmine.rules import Rule
    >>> untouched = ((("here", "was", True),), (("here", "new"), ("was", "new")))
    >>> arrived = ((("here", "new", True),), (("was", "new"),))
    >>> same = ((("new", "was", True),), ())
    >>> ask = ((), (("here", "new"), ("was", "new")), (("was", "new"),))
    >>> rule = Rule(["was"], [untouched, arrived, same, ask])
    >>> [rule.registers, rule.places, rule.notes, rule.asks(3), rule.asks(0), rule.lines[2]]
    [('was',), (), ('was',), True, False, ((('new', 'was', True),), ())]
    >>> Rule(["was"], [untouched])
    raises BadLine(0)
    >>> Rule(["here"], [ask])
    raises BadRegisters(['here'])
'''

STAGE_2 = '''
    >>> from stillmine.files import File, standing
    >>> file = File(rule)
    >>> [file.upgrade("a"), file.here, file["was"], file.edit("b"), file.change, file.upgrade("a"), file.here]
    [[], 'a', 'a', None, ('b',), [], 'b']
    >>> [file.upgrade("c", answer="keep"), file.here, file["was"], file.change, file.upgrade("d", answer="take"), file.change, file.here]
    [[], 'b', 'c', ('b',), [], None, 'd']
    >>> [file.upgrade("e", stop=1), file.amid, file.here, file["was"], file.upgrade("f", answer="take"), file.here]
    [[], True, 'e', 'd', ['needless'], 'f']
    >>> file.edit("g")
    >>> file.upgrade("h")
    raises Unanswered(3)
    >>> [file.last, file.mark, file.rule == rule, standing(rule, ["g", "f"], last="f", mark="own", mine="g") == file]
    ['f', 'own', True, True]
'''

STAGE_3 = '''
    >>> from stillmine.patterns import is_pattern, pattern_of, steps_from
    >>> file = File(rule)
    >>> [pattern_of(file), file.upgrade("x"), pattern_of(file), file.edit("y"), pattern_of(file)]
    [((0, 0, 0, 0), 'none', False), [], ((1, 1, 1, 0), 'none', False), None, ((1, 2, 2, 1), 'own', False)]
    >>> steps_from(rule, ((0, 0, 0, 0), "none", False))[:2]
    [(('edit', 1), (), ((1, 0, 0, 1), 'own', False)), (('upgrade', 0, None, None), (), ((0, 0, 0, 0), 'none', False))]
    >>> [is_pattern(rule, ((1, 2, 2, 1), "own", False)), is_pattern(rule, ((2, 1, 1, 0), "none", False))]
    [True, False]
'''

STAGE_4 = '''
    >>> from stillmine.tables import is_closed, table
    >>> [len(table(rule)), is_closed(rule, table(rule)), is_closed(rule, [((0, 0, 0, 0), "none", False)])]
    [5, True, False]
'''

STAGE_5 = '''
    >>> from stillmine.troubles import ahead, shortest, shows
    >>> [shortest(rule, word) for word in ("needless", "lost", "revived", "stale")]
    [None, None, None, None]
    >>> path = shortest(rule, "needless", stops=True)
    >>> [len(path), path[-1][0], shows(rule, "needless", path, stops=True), shows(rule, "needless", path)]
    [2, 'upgrade', True, False]
    >>> simple = Rule([], [((), (("here", "new"),))])
    >>> [len(shortest(simple, "lost")), shows(simple, "lost", [("edit", "x"), ("upgrade", "y", None, None)])]
    [2, True]
    >>> file = File(simple)
    >>> [file.edit("x"), len(ahead(file, "lost")), file.upgrade("x"), len(ahead(file, "lost")), ahead(file, "needless")]
    [None, 1, [], 2, None]
'''

STAGE_6 = '''
    >>> from stillmine.alike import alike, parting
    >>> noisy = Rule(["was"], [untouched, arrived, ask])
    >>> [alike(rule, rule), alike(rule, noisy), len(parting(rule, noisy)), parting(rule, simple)[-1][0]]
    [True, False, 2, 'upgrade']
'''

STAGE_7 = '''
    >>> from stillmine.ways import hanging
    >>> [hanging(simple, "take"), len(hanging(rule, "take")[0]), len(hanging(rule, "keep")[0])]
    [None, 1, 1]
'''

STAGE_8 = '''
    >>> from stillmine.notes import enough, without
    >>> spare = Rule(["was", "other"], [untouched, arrived, same, ((), (("here", "new"), ("was", "new"), ("other", "new")), (("was", "new"),))])
    >>> [enough(rule), enough(spare), without(rule, ["was"]).lines[1]]
    [[['was']], [['was']], ((('here', 'new', True),), (('was', 'nothing'),))]
'''

STAGE_9 = '''
    >>> from stillmine.stops import closing, harmful, shown
    >>> harmful(rule, "needless")
    [[(0, 'steps', 1)], [(3, 'take', 0)], [(3, 'take', 1)]]
    >>> [harmful(rule, "lost"), harmful(simple, "lost"), closing(simple, "lost"), len(closing(rule, "needless"))]
    [[], [[]], None, 3]
    >>> [len(shown(rule, "needless", [(0, "steps", 1)])), shown(rule, "needless", [(0, "steps", 0)])]
    [2, None]
'''

STAGE_10 = '''
    >>> from stillmine.fewest import fewest
    >>> [fewest(simple, "lost")[0], fewest(rule, "lost"), fewest(rule, "needless", stops=True)[0]]
    [1, None, 2]
'''

STAGE_11 = '''
    >>> from stillmine.houses import House
    >>> house = House(rule)
    >>> [house.bring({"conf": "a", "list": "b"}), house.lay("conf", "mine"), house.bring({"conf": "a", "list": "c"})]
    [{}, None, {}]
    >>> [house.names, house.file("conf").here, house.file("list").here, house.undo(1), house.file("list").here]
    [['conf', 'list'], 'mine', 'c', None, 'b']
    >>> house.bring({"conf": "d"})
    raises Unanswered(3)
'''

STAGE_12 = r'''
    >>> from stillmine.texts import read_rule, rule_text
    >>> rule_text(rule)
    'registers was\nhere is was: here from new, was from new\nhere is new: was from new\nnew is was: do nothing\notherwise: ask here from new, was from new or was from new'
    >>> read_rule(rule_text(rule)) == rule
    True
'''

STAGE_13 = '''
    >>> from stillmine.bridges import bridges, crossed, crossing
    >>> other = Rule(["seen"], [((("here", "seen", True),), (("here", "new"), ("seen", "new"))), ((("here", "new", True),), (("seen", "new"),)), ((("new", "seen", True),), ()), ((), (("here", "new"), ("seen", "new")), (("seen", "new"),))])
    >>> bridges(rule, other)
    [{'seen': 'was'}]
    >>> [len(crossing(rule, other, {"seen": "nothing"}, "needless")), len(crossing(rule, other, {"seen": "here"}, "lost")), crossing(rule, other, {"seen": "was"}, "lost")]
    [3, 3, None]
    >>> file = File(rule)
    >>> [file.upgrade("a"), file.edit("b")]
    [[], None]
    >>> made, told = crossed(file, other, {"seen": "was"})
    >>> [made.here, made["seen"], made.change, told]
    ['b', 'a', ('b',), []]
    >>> crossed(file, other, {"was": "was"})
    raises BadBridge({'was': 'was'})
'''


def examples(text):
    """The pairs of a line that is entered and the line that is shown, "" if none is."""
    pairs = []
    for line in text.splitlines():
        if line.startswith("    >>> "):
            pairs.append((line[8:], ""))
        elif line:
            pairs[-1] = (pairs[-1][0], line[4:])
    return pairs


def shown(code, names):
    """What is shown when a line is entered; the errors' attributes stand in the sequence of the arguments."""
    try:
        value = eval(code, names)
    except SyntaxError:
        exec(code, names)
        return ""
    except ValueError as error:
        return f"raises {type(error).__name__}({', '.join(repr(each) for each in vars(error).values())})"
    return "" if value is None else repr(value)


class Examples(unittest.TestCase):
    def test_all_headings(self):
        names = {}
        stages = (STAGE_1, STAGE_2, STAGE_3, STAGE_4, STAGE_5, STAGE_6, STAGE_7, STAGE_8, STAGE_9, STAGE_10, STAGE_11,
                  STAGE_12, STAGE_13)
        pairs = [pair for text in stages for pair in examples(text)]
        self.assertEqual(len(pairs), 63)
        for code, result in pairs:
            with self.subTest(code):
                self.assertEqual(shown(code, names), result)


if __name__ == "__main__":
    unittest.main()
