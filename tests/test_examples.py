"""The examples of the document, word for word."""

import unittest

STAGE_1 = '''
    >>> from stillmine.rules import Rule
    >>> untouched = ((("here", "was", True),), (("here", "new"), ("was", "new")))
    >>> arrived = ((("here", "new", True),), (("was", "new"),))
    >>> same = ((("new", "was", True),), ())
    >>> ask = ((), (("here", "new"), ("was", "new")), (("was", "new"),))
    >>> rule = Rule(["was"], [untouched, arrived, same, ask])
    >>> [rule.registers, rule.places, rule.notes, rule.asks(3), rule.asks(0), rule.lines[2]]
    [('was',), (), ('was',), True, False, ((('new', 'was', True),), ())]
    >>> Rule(["was"], [untouched])
    raises BadLine(0)
    >>> Rule(["here"], [ask])
    raises BadRegisters(['here'])
'''

STAGE_2 = '''
    >>> from stillmine.files import File, standing
    >>> file = File(rule)
    >>> [file.upgrade("a"), file.here, file["was"], file.edit("b"), file.change, file.upgrade("a"), file.here]
    [[], 'a', 'a', None, ('b',), [], 'b']
    >>> [file.upgrade("c", answer="keep"), file.here, file["was"], file.change, file.upgrade("d", answer="take"), file.change, file.here]
    [[], 'b', 'c', ('b',), [], None, 'd']
    >>> [file.upgrade("e", stop=1), file.amid, file.here, file["was"], file.upgrade("f", answer="take"), file.here]
    [[], True, 'e', 'd', ['needless'], 'f']
    >>> file.edit("g")
    >>> file.upgrade("h")
    raises Unanswered(3)
    >>> [file.last, file.mark, file.rule == rule, standing(rule, ["g", "f"], last="f", mark="own", mine="g") == file]
    ['f', 'own', True, True]
'''


def examples(text):
    """The pairs of a line that is entered and the line that is shown, "" if none is."""
    pairs = []
    for line in text.splitlines():
        if line.startswith("    >>> "):
            pairs.append((line[8:], ""))
        elif line:
            pairs[-1] = (pairs[-1][0], line[4:])
    return pairs


def shown(code, names):
    """What is shown when a line is entered; the errors' attributes stand in the sequence of the arguments."""
    try:
        value = eval(code, names)
    except SyntaxError:
        exec(code, names)
        return ""
    except ValueError as error:
        return f"raises {type(error).__name__}({', '.join(repr(each) for each in vars(error).values())})"
    return "" if value is None else repr(value)


class Examples(unittest.TestCase):
    def test_both_headings(self):
        names = {}
        pairs = examples(STAGE_1) + examples(STAGE_2)
        self.assertEqual(len(pairs), 17)
        for code, result in pairs:
            with self.subTest(code):
                self.assertEqual(shown(code, names), result)


if __name__ == "__main__":
    unittest.main()
