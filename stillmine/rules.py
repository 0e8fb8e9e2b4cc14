"""Rules: what a tool does with a file when something comes."""

from stillmine.errors import BadLine, BadLines, BadRegisters
from stillmine.plans import Plan

PLACES = ("beside", "elder")
WORDS_OF_TEXTS = ("here", "new", "nothing", "is", "not", "from", "or", "ask", "do", "otherwise")


class Rule:
    """A rule: the registers besides here, and the lines, the first fitting one of which is taken.

    The attribute plan is the rule as stillmine/states.py needs it.
    """

    def __init__(self, registers, lines):
        if not are_registers(registers):
            raise BadRegisters(registers)
        if not isinstance(lines, (list, tuple)) or not 1 <= len(lines) <= 8:
            raise BadLines(lines)
        names = tuple(registers)
        refuse_bad_lines(lines, names)
        # The lines are tuples throughout, so nobody can change them from outside.
        self._registers = names
        self._lines = tuple(lines)
        self.plan = Plan(names, self.places, self._lines)

    @property
    def registers(self):
        """The names of the registers, a tuple."""
        return self._registers

    @property
    def lines(self):
        """The lines, a tuple."""
        return self._lines

    @property
    def places(self):
        """The registers that are places, a tuple in their sequence."""
        return tuple([name for name in self._registers if name in PLACES])

    @property
    def notes(self):
        """The registers that are no places, a tuple in their sequence."""
        return tuple([name for name in self._registers if name not in PLACES])

    def asks(self, position):
        """Return whether the line at a position asks; where there is no line, none does."""
        return 0 <= position < len(self._lines) and len(self._lines[position]) == 3

    def __eq__(self, other):
        return isinstance(other, Rule) and self._registers == other._registers and self._lines == other._lines


def is_word(value):
    """Return whether any value is a string of 1 to 8 letters a to z."""
    if not isinstance(value, str) or not 1 <= len(value) <= 8:
        return False
    return all(["a" <= letter <= "z" for letter in value])


def are_registers(value):
    """Return whether any value is a list or tuple of 0 to 3 different names of registers."""
    if not isinstance(value, (list, tuple)) or len(value) > 3:
        return False
    if not all([is_word(name) and name not in WORDS_OF_TEXTS for name in value]):
        return False
    return len(set(value)) == len(value)


def refuse_bad_lines(lines, registers):
    """Raise BadLine for the first of some values that cannot stand where it stands in a rule."""
    last = len(lines) - 1
    for position, line in enumerate(lines):
        if not is_line(line, registers) or (position == last and line[0] != ()):
            raise BadLine(position)


def is_line(value, registers):
    """Return whether any value is a line with some registers."""
    if not isinstance(value, tuple) or len(value) not in (2, 3):
        return False
    if not are_at_most_four(value[0]) or not all([is_test(test, registers) for test in value[0]]):
        return False
    return all([are_steps(steps, registers) for steps in value[1:]])


def are_at_most_four(value):
    """Return whether any value is a tuple of at most 4 entries."""
    return isinstance(value, tuple) and len(value) <= 4


def is_test(value, registers):
    """Return whether any value is a test with some registers."""
    if not isinstance(value, tuple) or len(value) != 3:
        return False
    one, other, same = value
    names = ("here", "new") + registers
    return one in names and (other in names or other == "nothing") and isinstance(same, bool)


def are_steps(value, registers):
    """Return whether any value is a list of steps with some registers."""
    return are_at_most_four(value) and all([is_step(step, registers) for step in value])


def is_step(value, registers):
    """Return whether any value is a step with some registers."""
    if not isinstance(value, tuple) or len(value) != 2:
        return False
    target, source = value
    targets = ("here",) + registers
    return target in targets and (source in targets or source in ("new", "nothing"))
