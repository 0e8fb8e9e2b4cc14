"""Two rules side by side: whether they are alike, and where they part."""

from stillmine.errors import OtherPlaces
from stillmine.states import Arrival, edited, first_state, shown_by
from stillmine.walks import arrivals_of, contents_that_count, is_edit, numbered, walked


def parting(first, second):
    """Return a shortest path without stops behind whose last deed two rules part, or None."""
    if first.places != second.places:
        raise OtherPlaces(second.places)

    def steps(pair):
        return steps_of_pair(first, second, pair)

    return walked((first_state(first), first_state(second)), steps, key_of_pair, "parted")[1]


def alike(first, second):
    """Return whether two rules are alike."""
    return parting(first, second) is None


def contents_of_pair(pair):
    """Return the tuple of the contents of a pair of states that rules can see: last, the mark and mine are not."""
    return pair[0][0] + pair[1][0]


def key_of_pair(pair):
    """Return what counts of a pair of states for whether, and where, two rules part."""
    return numbered(contents_of_pair(pair))


def steps_of_pair(first, second, pair):
    """Return the list of all tuples (deed, troubles, pair behind) of a pair; the only trouble is "parted"."""
    contents = contents_that_count(contents_of_pair(pair))
    steps = []
    for content in contents:
        if is_edit(pair[0], content):
            steps.append((("edit", content), (), (edited(pair[0], content), edited(pair[1], content))))
    for word in arrivals_of(first):
        for content in contents:
            steps.extend(arrivals_of_pair(first, second, pair, word, content))
    return steps


def arrivals_of_pair(first, second, pair, word, content):
    """Return the list of all tuples (deed, troubles, pair behind) of a pair if a content comes to both."""
    one = Arrival(first, pair[0], content, word == "renamed")
    other = Arrival(second, pair[1], content, word == "renamed")
    if one.answers() != other.answers():
        return [((word, content, "take", None), ("parted",), pair)]
    steps = []
    for answer in one.answers():
        behind = (one.outcome(answer, None)[1], other.outcome(answer, None)[1])
        parted = shown_by(first, behind[0]) != shown_by(second, behind[1])
        steps.append(((word, content, answer, None), ("parted",) if parted else (), behind))
    return steps
