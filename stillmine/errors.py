"""The errors: each keeps what it is given, the very value, under the name of its argument."""


class UpgradeError(ValueError):
    """Something that the package refuses."""


class BadRegisters(UpgradeError):
    """A value is not the registers of a rule."""

    def __init__(self, value):
        self.value = value


class BadLines(UpgradeError):
    """A value is not a list or tuple of 1 to 8 entries."""

    def __init__(self, value):
        self.value = value


class BadLine(UpgradeError):
    """The entry at a position is not a line of the rule."""

    def __init__(self, position):
        self.position = position


class BadContent(UpgradeError):
    """A value is not a content that is asked for."""

    def __init__(self, value):
        self.value = value


class StillAmid(UpgradeError):
    """A content is to be edited in amid an upgrade."""

    def __init__(self, content):
        self.content = content


class Unanswered(UpgradeError):
    """The line at a position asks, and nobody answers."""

    def __init__(self, position):
        self.position = position


class BadAnswer(UpgradeError):
    """A value is not an answer."""

    def __init__(self, value):
        self.value = value


class BadStop(UpgradeError):
    """A value is not a number of steps to stop behind."""

    def __init__(self, value):
        self.value = value


class NoPlace(UpgradeError):
    """There is no such register."""

    def __init__(self, place):
        self.place = place


class BadTrouble(UpgradeError):
    """A value is not the name of a trouble."""

    def __init__(self, value):
        self.value = value


class OtherPlaces(UpgradeError):
    """Two rules have other places; these are those of the second one."""

    def __init__(self, value):
        self.value = value


class BadName(UpgradeError):
    """A value is not the name of a file."""

    def __init__(self, value):
        self.value = value


class NoFile(UpgradeError):
    """There is no file with this name."""

    def __init__(self, name):
        self.name = name


class Taken(UpgradeError):
    """A name is not free for a file that is moved."""

    def __init__(self, name):
        self.name = name


class TooFar(UpgradeError):
    """More calls are to be taken back than there are."""

    def __init__(self, count):
        self.count = count


class BadText(UpgradeError):
    """The text of no rule goes on like this at a line."""

    def __init__(self, line):
        self.line = line


class BadBridge(UpgradeError):
    """A value is not a bridge from one rule to another."""

    def __init__(self, value):
        self.value = value
