"""Files: what lies there, what a rule noted, and what a person holds on to."""

from stillmine.errors import BadAnswer, BadContent, BadStop, NoPlace, StillAmid, Unanswered
from stillmine.states import Arrival, edited, first_state


class File:
    """A file of a rule; a new one has nothing anywhere."""

    def __init__(self, rule):
        self._rule = rule
        self._state = first_state(rule)

    @property
    def rule(self):
        """The rule of the file."""
        return self._rule

    @property
    def here(self):
        """The content at the place of the file."""
        return self._state[0][0]

    @property
    def last(self):
        """What came with the last whole upgrade."""
        return self._state[1]

    @property
    def mark(self):
        """The mark: "none", "own" or "free"."""
        return self._state[2]

    @property
    def change(self):
        """The tuple (mine,) with the mark "own", otherwise None."""
        return (self._state[3],) if self._state[2] == "own" else None

    @property
    def amid(self):
        """Whether the file is amid an upgrade."""
        return self._state[4]

    def __getitem__(self, name):
        for place, content in zip(self._rule.registers, self._state[0][1:]):
            if place == name:
                return content
        raise NoPlace(name)

    def __iter__(self):
        raise TypeError("a file is not iterated over")

    def __eq__(self, other):
        return isinstance(other, File) and self._rule == other._rule and self._state == other._state

    def edit(self, content):
        """Let a person give here a content, or strike it with None."""
        if not is_content(content):
            raise BadContent(content)
        if self.amid:
            raise StillAmid(content)
        self._state = edited(self._state, content)

    def upgrade(self, content, *, answer=None, stop=None):
        """Let a content come, or None; return the list of the troubles."""
        refuse_bad_arrival(content, answer)
        return self._receive(content, False, answer, stop)

    def renamed(self, content, *, answer=None, stop=None):
        """Let a content come, or None, once the file has been brought to a new place; return the troubles."""
        refuse_bad_arrival(content, answer)
        if "elder" not in self._rule.registers:
            raise NoPlace("elder")
        return self._receive(content, True, answer, stop)

    def _receive(self, content, renaming, answer, stop):
        """Let a content come; return the list of the troubles."""
        arrival = Arrival(self._rule, self._state, content, renaming)
        if answer is None and self._rule.asks(arrival.position):
            raise Unanswered(arrival.position)
        if stop is not None and not is_index(stop, len(arrival.steps(answer))):
            raise BadStop(stop)
        troubles, self._state = arrival.outcome(answer, stop)
        return troubles

    def fork(self):
        """Return a new equal file that goes its own way."""
        other = File(self._rule)
        other._state = self._state
        return other


def standing(rule, contents, *, last=None, mark="none", mine=None, amid=False):
    """Return a file that has all this: contents are those of here and of the registers in their sequence."""
    file = File(rule)
    file._state = (tuple(contents), last, mark, mine if mark == "own" else None, amid)
    return file


def state_of(file):
    """Return the state of a file, as stillmine/states.py tells what a state is."""
    return file._state


def is_content(value):
    """Return whether any value is a content: a text, or None."""
    return value is None or is_text(value)


def is_text(value):
    """Return whether any value is a string of the characters from space to ~ and newlines."""
    return isinstance(value, str) and all([" " <= char <= "~" or char == "\n" for char in value])


def is_index(value, size):
    """Return whether any value is an integer from 0 on, less than a size."""
    return isinstance(value, int) and not isinstance(value, bool) and 0 <= value < size


def refuse_bad_arrival(content, answer):
    """Raise an error for values that are no content, or no answer."""
    if not is_content(content):
        raise BadContent(content)
    if answer not in (None, "take", "keep"):
        raise BadAnswer(answer)
