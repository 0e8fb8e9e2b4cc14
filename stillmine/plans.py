"""Plans: the lines of a rule with positions in place of names, so that many upgrades go quickly."""


class Plan:
    """A rule as upgrades need it.

    Positions count the contents of here and of the registers in their sequence, then what comes, then
    nothing. The attribute spots has those of here and the places, elder is that of elder, or None.
    choices has for each line a tuple (tests, lists): one list of steps, or those of take and keep.
    """

    def __init__(self, registers, places, lines):
        names = ("here",) + registers + ("new", "nothing")
        positions = {name: position for position, name in enumerate(names)}
        self.spots = tuple([positions[name] for name in ("here",) + places])
        self.elder = positions.get("elder")
        self.choices = tuple([choice_of(line, positions) for line in lines])


def choice_of(line, positions):
    """Return the tuple (tests, lists) of a line."""
    tests = tuple([(positions[one], positions[other], same) for one, other, same in line[0]])
    lists = tuple([tuple([(positions[target], positions[source]) for target, source in steps]) for steps in line[1:]])
    return tests, lists
