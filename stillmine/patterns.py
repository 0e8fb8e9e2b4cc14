"""Patterns: what of a file counts for all that can be done with it."""

from stillmine.files import is_index, state_of
from stillmine.walks import pattern_of_state, steps_of


def pattern_of(file):
    """Return the pattern of a file, a tuple (numbers, mark, amid)."""
    return pattern_of_state(state_of(file))


def is_pattern(rule, value):
    """Return whether any value has the shape of a pattern of a file of a rule."""
    if not isinstance(value, tuple) or len(value) != 3:
        return False
    numbers, mark, amid = value
    if not are_numbers(numbers, len(rule.registers) + 3) or not isinstance(amid, bool):
        return False
    if mark == "own":
        return True
    return numbers[-1] == 0 and (mark == "none" or (mark == "free" and amid))


def steps_from(rule, pattern, *, stops=False):
    """Return the list of all tuples (deed, troubles, pattern) of a pattern, the deeds with its numbers."""
    contents = [None] + list(range(1, max(pattern[0]) + 2))
    steps = steps_of(rule, state_of_pattern(pattern), contents, stops)
    return [(deed_in_numbers(deed), troubles, pattern_of_state(after)) for deed, troubles, after in steps]


def state_of_pattern(pattern):
    """Return a state with a pattern, in which numbers stand for texts."""
    numbers, mark, amid = pattern
    contents = tuple([None if number == 0 else number for number in numbers])
    return (contents[:-2], contents[-2], mark, contents[-1], amid)


def deed_in_numbers(deed):
    """Return a deed whose content is a number or None with 0 in place of None."""
    return (deed[0], 0 if deed[1] is None else deed[1]) + deed[2:]


def are_numbers(value, size):
    """Return whether any value is a tuple of so many numbers, new ones in the sequence 1, 2, .."""
    if not isinstance(value, tuple) or len(value) != size:
        return False
    greatest = 0
    for number in value:
        if not is_index(number, greatest + 2):
            return False
        greatest = max(greatest, number)
    return True
