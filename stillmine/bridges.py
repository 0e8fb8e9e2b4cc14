"""Bridges: files that cross from one rule to another."""

from stillmine.errors import BadBridge
from stillmine.files import standing, state_of
from stillmine.patterns import state_of_pattern, steps_from
from stillmine.states import first_state, shown_by
from stillmine.tables import table
from stillmine.troubles import refuse_bad_trouble
from stillmine.walks import contents_that_count, held_by, pattern_of_state, steps_of, walked


class Outlook:
    """What lies ahead of the patterns of a rule: whether troubles that none of its own paths shows are among it."""

    def __init__(self, rule, stops):
        self._rule = rule
        self._stops = stops
        self._usual = {}
        self._near = {}
        # From patterns of the rule's own paths on, all is as usual.
        self._clear = {pattern: True for pattern in table(rule, stops=stops)}
        for pattern in self._clear:
            self._usual.update({trouble: True for trouble in self._next(pattern)[0]})

    def is_usual(self, troubles):
        """Return whether paths of the rule show each of some troubles."""
        return all([trouble in self._usual for trouble in troubles])

    def is_clear(self, patterns):
        """Return whether from none of some patterns on a trouble comes that is not usual."""
        met = {}
        waiting = list(patterns)
        while waiting:
            pattern = waiting.pop()
            if pattern not in met and pattern not in self._clear:
                met[pattern] = True
                troubles, behind = self._next(pattern)
                if not self.is_usual(troubles):
                    return False
                waiting.extend(behind)
        self._clear.update(met)
        return True

    def _next(self, pattern):
        """Return a tuple of two lists: the troubles that can come next, and the patterns."""
        if pattern not in self._near:
            steps = steps_from(self._rule, pattern, stops=self._stops)
            troubles = {trouble: True for _, told, _ in steps for trouble in told}
            self._near[pattern] = (list(troubles), list({after: True for _, _, after in steps}))
        return self._near[pattern]


def crossed(file, rule, bridge):
    """Return a tuple (file, troubles): the file of another rule that a file becomes, and the list of the troubles."""
    refuse_bad_bridge(file.rule, rule, bridge)
    troubles, state = crossed_state(file.rule, rule, bridge, state_of(file))
    contents, last, mark, mine, amid = state
    return standing(rule, list(contents), last=last, mark=mark, mine=mine, amid=amid), troubles


def crossing(first, second, bridge, trouble, *, stops=False):
    """Return a shortest crossing path that shows a trouble, or None."""
    refuse_bad_trouble(trouble)
    refuse_bad_bridge(first, second, bridge)

    def steps(node):
        is_over, state = node
        contents = contents_that_count(held_by(state))
        if is_over:
            told = steps_of(second, state, contents, stops)
            return [(deed, troubles, (True, after)) for deed, troubles, after in told]
        # What troubles the deeds ahead of the crossing have does not count.
        ahead = [(deed, (), (False, after)) for deed, _, after in steps_of(first, state, contents, stops)]
        troubles, after = crossed_state(first, second, bridge, state)
        return ahead + [(("cross",), troubles, (True, after))]

    return walked((False, first_state(first)), steps, key_of_node, trouble)[1]


def key_of_node(node):
    """Return what counts of a node of a crossing path, a tuple (whether the file has crossed, state)."""
    return node[0], pattern_of_state(node[1])


def bridges(first, second, *, stops=False):
    """Return the list of the safe bridges from a rule to another one, ascending."""
    states = [state_of_pattern(pattern) for pattern in table(first, stops=stops)]
    outlook = Outlook(second, stops)
    return [bridge for bridge in all_bridges(first, second) if is_safe(first, second, bridge, states, outlook)]


def all_bridges(first, second):
    """Return the list of all bridges from a rule to another one, ascending."""
    told = [{}]
    for name in second.registers:
        told = [{**bridge, name: source} for bridge in told for source in sources_of(first)]
    return told


def is_safe(first, second, bridge, states, outlook):
    """Return whether only usual troubles come if files of a rule with some states cross by a bridge."""
    patterns = []
    for state in states:
        troubles, after = crossed_state(first, second, bridge, state)
        if not outlook.is_usual(troubles):
            return False
        patterns.append(pattern_of_state(after))
    return outlook.is_clear(patterns)


def refuse_bad_bridge(first, second, value):
    """Raise BadBridge for any value that is not a bridge from a rule to another one."""
    if not isinstance(value, dict) or len(value) != len(second.registers):
        raise BadBridge(value)
    if not all([name in value and value[name] in sources_of(first) for name in second.registers]):
        raise BadBridge(value)


def sources_of(rule):
    """Return the tuple of what a bridge from a rule may lead to, ascending."""
    return ("nothing", "here") + rule.registers


def crossed_state(first, second, bridge, state):
    """Return the troubles of a crossing, a list, and the state behind it."""
    contents, last, mark, mine, amid = state
    held = dict(zip(("here",) + first.registers, contents))
    taken = contents[:1] + tuple([held.get(bridge[name]) for name in second.registers])
    after = (taken, last, mark, mine, amid)
    if mark == "own" and mine is not None and mine not in shown_by(second, after):
        return ["lost"], (taken, last, "none", None, amid)
    return [], after
