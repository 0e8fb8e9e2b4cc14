"""States of files, and what comes of them by edits, upgrades and renamings.

A state is a tuple (contents, last, mark, mine, amid). Contents is the tuple of what is here and in
the registers, in their sequence; mine is None without the mark "own". Contents are only compared:
None is nothing, and texts may be any values by which different texts can be told apart.
"""


def first_state(rule):
    """Return the state of a new file of a rule."""
    return ((None,) * (len(rule.registers) + 1), None, "none", None, False)


def edited(state, content):
    """Return the state behind an edit that gives here a content."""
    contents, last, _, _, amid = state
    if content == contents[0]:
        return state
    changed = (content,) + contents[1:]
    if content == last:
        return (changed, last, "none", None, amid)
    return (changed, last, "own", content, amid)


class Arrival:
    """Something that comes to a file, in an upgrade or a renaming: a line is taken, no step is done yet.

    The attribute position is that of the line.
    """

    def __init__(self, rule, state, new, renaming):
        self._rule = rule
        self._state = state
        self._held = contents_by_name(rule, state, new)
        if renaming:
            self._held["elder"] = self._held["here"]
            self._held["here"] = None
        self.position = line_taken(rule, self._held)

    def steps(self, answer):
        """Return the steps to be done, a tuple; the answer counts only if the line asks."""
        line = self._rule.lines[self.position]
        if self._rule.asks(self.position) and answer == "keep":
            return line[2]
        return line[1]

    def outcome(self, answer, stop):
        """Return the troubles, a list, and the state, if so many steps are done, all with the stop None."""
        rule, last = self._rule, self._state[1]
        needless, mark, mine = self._question(answer)
        held = done(self._held, self.steps(answer), stop)
        harm = harm_of(rule, held, mine) if mark == "own" else []
        if harm:
            mark, mine = "none", None
        remains = []
        if stop is None:
            last = held["new"]
            if mark == "free" or (mark == "own" and mine == last):
                mark, mine = "none", None
            remains = remains_of(rule, held, mark, mine)
        contents = tuple([held[name] for name in ("here",) + rule.registers])
        return needless + harm + remains, (contents, last, mark, mine, stop is not None)

    def _question(self, answer):
        """Return a list of at most one trouble, the mark, and mine, behind an answer or no question at all."""
        contents, _, mark, mine, _ = self._state
        if not self._rule.asks(self.position):
            return [], mark, mine
        troubles = ["needless"] if is_needless(self._state, self._held["new"]) else []
        # Behind the move of a renaming, here is no more what it was before the upgrade.
        here = contents[0]
        if answer == "take" and mark == "own":
            return troubles, "free", None
        if answer == "keep" and mark != "own":
            return troubles, "own", here
        return troubles, mark, mine


def contents_by_name(rule, state, new):
    """Return what the words in the lines of a rule stand for when new comes, a dict."""
    held = {"new": new, "nothing": None}
    for name, content in zip(("here",) + rule.registers, state[0]):
        held[name] = content
    return held


def line_taken(rule, held):
    """Return the position of the first line all of whose tests hold; the last line has none."""
    for position, line in enumerate(rule.lines[:-1]):
        if all([(held[one] == held[other]) == same for one, other, same in line[0]]):
            return position
    return len(rule.lines) - 1


def done(held, steps, stop):
    """Return what names stand for behind so many steps, all of them with the stop None, a new dict."""
    after = dict(held)
    count = len(steps) if stop is None else stop
    for target, source in steps[:count]:
        after[target] = after[source]
    return after


def is_needless(state, new):
    """Return whether nobody needed to be asked when new came to a state."""
    contents, last, mark, mine, amid = state
    here = contents[0]
    if mark == "none" or (mark == "own" and here != mine):
        return True
    return here == new or (last == new and not amid)


def harm_of(rule, held, mine):
    """Return what became of a change that a person held on to: a list of at most one trouble."""
    if mine is None:
        return [] if held["here"] is None else ["revived"]
    if mine in [held[name] for name in ("here",) + rule.places]:
        return []
    return ["lost"]


def remains_of(rule, held, mark, mine):
    """Return the troubles that only a whole upgrade has, by what lies there behind it."""
    own = [mine] if mark == "own" else []
    troubles = []
    if held["here"] not in [held["new"]] + own:
        troubles.append("stale")
    if "elder" in rule.registers and held["elder"] not in [None] + own:
        troubles.append("left")
    return troubles
