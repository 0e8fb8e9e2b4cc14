"""Notes: what a rule does without some of them, and which of them it needs."""

from stillmine.alike import alike
from stillmine.errors import BadRegisters
from stillmine.rules import Rule


def without(rule, names):
    """Return the rule in which each step into one of some notes gives it nothing."""
    if not are_notes(rule, names):
        raise BadRegisters(names)
    lines = [line[:1] + tuple([steps_without(steps, names) for steps in line[1:]]) for line in rule.lines]
    return Rule(rule.registers, lines)


def enough(rule):
    """Return the list of the least sets of notes that are enough, each a list of names."""
    told = []
    for kept in sorted(parts_of(len(rule.notes)), key=len):
        larger = any([all([position in kept for position in part]) for part in told])
        if not larger and are_enough(rule, [rule.notes[position] for position in kept]):
            told.append(kept)
    return [[rule.notes[position] for position in kept] for kept in sorted(told)]


def are_notes(rule, value):
    """Return whether any value is a list of different notes of a rule."""
    if not isinstance(value, list) or not all([name in rule.notes for name in value]):
        return False
    return all([value.count(name) == 1 for name in value])


def steps_without(steps, names):
    """Return a tuple of steps in which those into some notes give nothing."""
    return tuple([(target, "nothing" if target in names else source) for target, source in steps])


def parts_of(size):
    """Return the list of all lists of different positions below a size, each ascending."""
    parts = [[]]
    for position in range(size):
        parts = parts + [part + [position] for part in parts]
    return parts


def are_enough(rule, names):
    """Return whether some notes are enough: whether a rule does the same with all others kept empty."""
    others = [name for name in rule.notes if name not in names]
    return not others or alike(rule, without(rule, others))
