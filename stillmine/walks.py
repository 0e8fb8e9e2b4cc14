"""Walks from state to state: which deeds there are in one, and a search for the shortest way to a trouble."""

from stillmine.states import Arrival, edited

LETTERS = "abcdefghijklmnopqrstuvwxyz"


def held_by(state):
    """Return the tuple of all contents that a state has: here, the registers, last, and mine."""
    contents, last, _, mine, _ = state
    return contents + (last, mine)


def numbered(contents):
    """Return the tuple of numbers for contents: 0 for nothing, 1, 2, .. for texts as they first appear."""
    numbers = {None: 0}
    return tuple([numbers.setdefault(content, len(numbers)) for content in contents])


def pattern_of_state(state):
    """Return the pattern of files with a state, a tuple (numbers, mark, amid)."""
    return (numbered(held_by(state)), state[2], state[4])


def contents_that_count(contents, letters=LETTERS):
    """Return the list of the contents that can make a difference beside some: nothing, these, and another one.

    The other one is one of some letters; there is none if all of them are among the contents.
    """
    known = {None: True}
    for content in contents:
        known[content] = True
    others = [letter for letter in letters if letter not in known]
    return list(known) + others[:1]


def is_edit(state, content):
    """Return whether an edit can give here a content in a state, and changes something by it."""
    return not state[4] and content != state[0][0]


def arrivals_of(rule):
    """Return the words for what can come to a file of a rule, a tuple."""
    return ("upgrade", "renamed") if "elder" in rule.registers else ("upgrade",)


def steps_of(rule, state, contents, stops):
    """Return the list of all tuples (deed, troubles, state behind) for deeds in a state with some contents."""
    return [step for _, step in pointed_steps_of(rule, state, contents, stops)]


def pointed_steps_of(rule, state, contents, stops):
    """Return the list of all tuples (stop point or None, step), the steps as steps_of tells them."""
    edits = [content for content in contents if is_edit(state, content)]
    steps = [(None, (("edit", content), (), edited(state, content))) for content in edits]
    for word in arrivals_of(rule):
        for content in contents:
            arrival = Arrival(rule, state, content, word == "renamed")
            for answer, stop in arrival.ways(stops):
                troubles, after = arrival.outcome(answer, stop)
                step = ((word, content, answer, stop), tuple(troubles), after)
                steps.append((arrival.point(answer, stop), step))
    return steps


def walked_from(rule, state, trouble, stops):
    """Return the patterns that deeds lead to from a state on, and a shortest list of deeds to a trouble, or None.

    With the trouble None no step ends the walk, so that it meets all patterns.
    """
    def steps(before):
        return steps_of(rule, before, contents_that_count(held_by(before)), stops)

    return walked(state, steps, pattern_of_state, trouble)


def walked(start, steps, key, trouble):
    """Return the keys that are met, a list, and a shortest list of deeds to a trouble, or None.

    steps(node) is the list of tuples (deed, troubles, node behind); nodes with the same key(node) go on
    alike, so that only the first of them is looked at. The walk ends with the first step that has the trouble.
    """
    met = {key(start): True}
    trail = [(start, None, None)]
    at = 0
    while at < len(trail):
        node = trail[at][0]
        for deed, troubles, after in steps(node):
            if trouble in troubles:
                return list(met), deeds_to(trail, at) + [deed]
            behind = key(after)
            if behind not in met:
                met[behind] = True
                trail.append((after, at, deed))
        at += 1
    return list(met), None


def deeds_to(trail, at):
    """Return the list of the deeds to a node of a trail: tuples (node, position of the node before, deed between)."""
    deeds = []
    _, before, deed = trail[at]
    while before is not None:
        deeds.append(deed)
        _, before, deed = trail[before]
    return deeds[::-1]
