"""Tables: all patterns that paths lead to."""

from stillmine.files import File
from stillmine.patterns import is_pattern, pattern_of, steps_from
from stillmine.states import first_state
from stillmine.walks import walked_from


def table(rule, *, stops=False):
    """Return the list of all patterns that paths of a rule lead to, ascending."""
    patterns, _ = walked_from(rule, first_state(rule), None, stops)
    return sorted(patterns)


def is_closed(rule, value, *, stops=False):
    """Return whether any value is a list of different patterns, that of a new file among them, that no step leaves."""
    if not isinstance(value, list) or not all([is_pattern(rule, pattern) for pattern in value]):
        return False
    known = {pattern: True for pattern in value}
    if len(known) != len(value) or pattern_of(File(rule)) not in known:
        return False
    for pattern in value:
        if not all([after in known for _, _, after in steps_from(rule, pattern, stops=stops)]):
            return False
    return True
