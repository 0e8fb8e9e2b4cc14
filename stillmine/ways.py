"""Ways: whether it makes a difference that a file went by way of an upgrade between."""

from stillmine.errors import BadAnswer
from stillmine.states import Arrival, first_state
from stillmine.walks import contents_that_count, numbered, steps_of, walked


def hanging(rule, answer):
    """Return a tuple (path, X, Y) as short as possible that shows that a rule hangs on the way, or None."""
    if answer not in ("take", "keep"):
        raise BadAnswer(answer)

    def steps(state):
        return steps_with_answer(rule, state, answer)

    deeds = walked(first_state(rule), steps, key_of_contents, "hangs")[1]
    return None if deeds is None else (deeds[:-1], deeds[-1][1], deeds[-1][2])


def key_of_contents(state):
    """Return what counts of a state for what lies here later on: rules see neither last nor mark nor mine."""
    return numbered(state[0])


def steps_with_answer(rule, state, answer):
    """Return the list of all tuples (deed, troubles, state behind), where all questions have one answer.

    If what lies here hangs on the way in this state, a step ("way", X, Y) with the trouble "hangs" stands first.
    """
    contents = contents_that_count(state[0])
    steps = steps_of(rule, state, contents, False)
    answered = [step for step in steps if step[0][0] == "edit" or step[0][2] in (None, answer)]
    ways = ways_that_differ(rule, state, contents, answer)
    return [(("way", between, content), ("hangs",), state) for between, content in ways] + answered


def ways_that_differ(rule, state, contents, answer):
    """Return the list of the tuples (X, Y) for which X and then Y give here another content than Y alone."""
    ways = []
    for between in contents:
        through = upgraded(rule, state, between, answer)
        for content in contents_that_count(state[0] + (between,)):
            if here_behind(rule, through, content, answer) != here_behind(rule, state, content, answer):
                ways.append((between, content))
    return ways


def here_behind(rule, state, content, answer):
    """Return what is here behind a whole upgrade; the answer counts only if the line asks."""
    return upgraded(rule, state, content, answer)[0][0]


def upgraded(rule, state, content, answer):
    """Return the state behind a whole upgrade; the answer counts only if the line asks."""
    return Arrival(rule, state, content, False).outcome(answer, None)[1]
