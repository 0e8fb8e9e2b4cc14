"""States of files, and what comes of them by edits, upgrades and renamings.

A state is a tuple (contents, last, mark, mine, amid). Contents is the tuple of what is here and in
the registers, in their sequence; mine is None without the mark "own". Contents are only compared:
None is nothing, and texts may be any values by which different texts can be told apart.
"""


def first_state(rule):
    """Return the state of a new file of a rule."""
    return ((None,) * (len(rule.registers) + 1), None, "none", None, False)


def edited(state, content):
    """Return the state behind an edit that gives here a content."""
    contents, last, _, _, amid = state
    if content == contents[0]:
        return state
    changed = (content,) + contents[1:]
    if content == last:
        return (changed, last, "none", None, amid)
    return (changed, last, "own", content, amid)


class Arrival:
    """Something that comes to a file, in an upgrade or a renaming: a line is taken, no step is done yet.

    The attribute position is that of the line.
    """

    def __init__(self, rule, state, new, renaming):
        self._plan = rule.plan
        self._state = state
        # The positions in it are those of the plan.
        self._held = list(state[0]) + [new, None]
        if renaming:
            self._held[self._plan.elder] = self._held[0]
            self._held[0] = None
        self.position = line_taken(self._plan, self._held)
        self._lists = self._plan.choices[self.position][1]

    def answers(self):
        """Return a tuple of the answers that there are: those to the question, or None alone."""
        return ("take", "keep") if len(self._lists) == 2 else (None,)

    def steps(self, answer):
        """Return the steps to be done, a tuple; the answer counts only if the line asks."""
        return self._lists[-1] if answer == "keep" else self._lists[0]

    def ways(self, stops):
        """Return the list of all tuples (answer, stop) that there are, with stops or whole ones alone."""
        told = []
        for answer in self.answers():
            if stops:
                told.extend([(answer, stop) for stop in range(len(self.steps(answer)))])
            told.append((answer, None))
        return told

    def point(self, answer, stop):
        """Return the stop point (line, list, done) where an upgrade is stopped, or None if it is whole."""
        return None if stop is None else (self.position, answer or "steps", stop)

    def outcome(self, answer, stop):
        """Return the troubles, a list, and the state, if so many steps are done, all with the stop None."""
        plan, last, new = self._plan, self._state[1], self._held[-2]
        needless, mark, mine = self._question(answer)
        held = done(self._held, self.steps(answer), stop)
        harm = harm_of(plan, held, mine) if mark == "own" else []
        if harm:
            mark, mine = "none", None
        remains = []
        if stop is None:
            last = new
            if mark == "free" or (mark == "own" and mine == new):
                mark, mine = "none", None
            remains = remains_of(plan, held, (mine,) if mark == "own" else ())
        return needless + harm + remains, (tuple(held[:-2]), last, mark, mine, stop is not None)

    def _question(self, answer):
        """Return a list of at most one trouble, the mark, and mine, behind an answer or no question at all."""
        contents, _, mark, mine, _ = self._state
        if len(self._lists) == 1:
            return [], mark, mine
        troubles = ["needless"] if is_needless(self._state, self._held[-2]) else []
        # Behind the move of a renaming, here is no more what it was before the upgrade.
        here = contents[0]
        if answer == "take" and mark == "own":
            return troubles, "free", None
        if answer == "keep" and mark != "own":
            return troubles, "own", here
        return troubles, mark, mine


def shown_by(rule, state):
    """Return the list of what lies here and at the places in a state."""
    return [state[0][spot] for spot in rule.plan.spots]


def line_taken(plan, held):
    """Return the position of the first line all of whose tests hold; the last line has none."""
    for position, (tests, _) in enumerate(plan.choices[:-1]):
        if all([(held[one] == held[other]) == same for one, other, same in tests]):
            return position
    return len(plan.choices) - 1


def done(held, steps, stop):
    """Return what stands at the positions behind so many steps, all of them with the stop None, a new list."""
    after = list(held)
    for target, source in steps[:stop]:
        after[target] = after[source]
    return after


def is_needless(state, new):
    """Return whether nobody needed to be asked when new came to a state."""
    contents, last, mark, mine, amid = state
    here = contents[0]
    if mark == "none" or (mark == "own" and here != mine):
        return True
    return here == new or (last == new and not amid)


def harm_of(plan, held, mine):
    """Return what became of a change that a person held on to: a list of at most one trouble."""
    if mine is None:
        return [] if held[0] is None else ["revived"]
    if mine in [held[spot] for spot in plan.spots]:
        return []
    return ["lost"]


def remains_of(plan, held, own):
    """Return the troubles that only a whole upgrade has, by what lies there behind it.

    own is an empty tuple, or that of the change that a person still holds on to.
    """
    troubles = []
    if held[0] not in (held[-2],) + own:
        troubles.append("stale")
    if plan.elder is not None and held[plan.elder] not in (None,) + own:
        troubles.append("left")
    return troubles
