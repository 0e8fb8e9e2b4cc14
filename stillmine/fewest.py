"""Fewest: how many different contents it takes to show a trouble."""

from stillmine.states import first_state
from stillmine.troubles import refuse_bad_trouble, shortest
from stillmine.walks import LETTERS, contents_that_count, held_by, pattern_of_state, steps_of, walked


def fewest(rule, trouble, *, stops=False):
    """Return a tuple (m, path) with the fewest contents of a trouble, and a path with no more of them, or None."""
    refuse_bad_trouble(trouble)
    if shortest(rule, trouble, stops=stops) is None:
        return None
    count, path = 0, None
    while path is None:
        path = path_with(rule, trouble, stops, LETTERS[:count])
        count += 1
    return count - 1, path


def path_with(rule, trouble, stops, letters):
    """Return a shortest path on which all texts are among some letters and that shows a trouble, or None."""
    def steps(state):
        return steps_of(rule, state, contents_that_count(held_by(state), letters), stops)

    return walked(first_state(rule), steps, pattern_of_state, trouble)[1]
