"""Troubles: the shortest paths that show them."""

from stillmine.errors import BadTrouble
from stillmine.files import is_content, is_index, state_of
from stillmine.states import Arrival, edited, first_state
from stillmine.walks import arrivals_of, is_edit, walked_from

TROUBLES = ("needless", "lost", "revived", "stale", "left")


def shortest(rule, trouble, *, stops=False):
    """Return a shortest path that shows a trouble, or None."""
    refuse_bad_trouble(trouble)
    return walked_from(rule, first_state(rule), trouble, stops)[1]


def ahead(file, trouble, *, stops=False):
    """Return a shortest list of deeds that a file can have next, the last of which has a trouble, or None."""
    refuse_bad_trouble(trouble)
    return walked_from(file.rule, state_of(file), trouble, stops)[1]


def shows(rule, trouble, value, *, stops=False):
    """Return whether any value is a path that shows a trouble."""
    refuse_bad_trouble(trouble)
    if not isinstance(value, list):
        return False
    troubles, state = [], first_state(rule)
    for deed in value:
        if not is_deed(rule, state, deed, stops):
            return False
        troubles, state = outcome_of(rule, state, deed)
    return trouble in troubles


def refuse_bad_trouble(value):
    """Raise BadTrouble for any value that is not the name of a trouble."""
    if value not in TROUBLES:
        raise BadTrouble(value)


def is_deed(rule, state, value, stops):
    """Return whether any value is a deed that a path can have in a state."""
    if not isinstance(value, tuple) or len(value) not in (2, 4) or not is_content(value[1]):
        return False
    if len(value) == 2:
        return value[0] == "edit" and is_edit(state, value[1])
    word, content, answer, stop = value
    if word not in arrivals_of(rule):
        return False
    arrival = Arrival(rule, state, content, word == "renamed")
    if answer not in arrival.answers():
        return False
    return stop is None or (stops and is_index(stop, len(arrival.steps(answer))))


def outcome_of(rule, state, deed):
    """Return the troubles of a deed, a list, and the state behind it."""
    if deed[0] == "edit":
        return [], edited(state, deed[1])
    word, content, answer, stop = deed
    return Arrival(rule, state, content, word == "renamed").outcome(answer, stop)
