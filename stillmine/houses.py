"""Houses: files under names, and the editions that are brought to all of them."""

from stillmine.errors import BadContent, BadName, NoFile, NoPlace, Taken, TooFar
from stillmine.files import File, is_text
from stillmine.rules import is_word


class House:
    """A house of a rule; a new one has no files."""

    def __init__(self, rule):
        self._rule = rule
        # A file that stands in the house is never changed, only exchanged, so that dicts of files can share it.
        self._files = {}
        self._before = []

    @property
    def names(self):
        """The list of the names of the files, ascending."""
        return sorted(list(self._files))

    def __eq__(self, other):
        return isinstance(other, House) and self._rule == other._rule and self._files == other._files

    def file(self, name):
        """Return a fork of the file with a name."""
        if not is_word(name) or name not in self._files:
            raise NoFile(name)
        return self._files[name].fork()

    def lay(self, name, content):
        """Let a person give the file with a name a content, or a new file if there is none."""
        if not is_word(name):
            raise BadName(name)
        file = self._fork_or_new(name)
        file.edit(content)
        self._exchange({**self._files, name: file})

    def bring(self, edition, *, moved=None, answers=None, stop=None):
        """Bring an edition to all files; return a dict from the names of files that had troubles to these."""
        moves = {} if moved is None else moved
        replies = {} if answers is None else answers
        refuse_bad_names_and_texts(edition, moves)
        self._refuse_bad_moves(edition, moves, stop)
        files, troubles = {**self._files}, {}
        for name in self._names_behind(edition, moves):
            ends = stop is not None and stop[0] == name
            file = self._fork_or_new(moves.get(name, name))
            told = received(file, edition.get(name), name in moves, replies.get(name), stop[1] if ends else None)
            if told:
                troubles[name] = told
            if name in moves:
                del files[moves[name]]
            files[name] = file
            if ends:
                break
        self._exchange(files)
        return troubles

    def undo(self, number):
        """Take back the last calls of lay and bring, so many of them."""
        if number > len(self._before):
            raise TooFar(len(self._before))
        for _ in range(number):
            self._files = self._before.pop()

    def fork(self):
        """Return a new equal house with the same calls to take back."""
        other = House(self._rule)
        other._files = self._files
        other._before = list(self._before)
        return other

    def _fork_or_new(self, name):
        """Return a fork of the file with a name, or a new file if there is none."""
        return self._files[name].fork() if name in self._files else File(self._rule)

    def _exchange(self, files):
        """Have other files from now on, as one more call to take back."""
        self._before.append(self._files)
        self._files = files

    def _names_behind(self, edition, moves):
        """Return the list of the names that the files have behind a whole edition, ascending."""
        left = list(moves.values())
        return sorted(set([name for name in self._files if name not in left] + list(edition) + list(moves)))

    def _refuse_bad_moves(self, edition, moves, stop):
        """Raise an error for files that are not there, new names that are not free, and a rule without elder."""
        known = []
        for name in moves.values():
            if not is_word(name) or name in known or name in edition or name not in self._files:
                raise NoFile(name)
            known.append(name)
        if stop is not None and stop[0] not in self._names_behind(edition, moves):
            raise NoFile(stop[0])
        for name in moves:
            if name in self._files or name not in edition:
                raise Taken(name)
        if moves and "elder" not in self._rule.registers:
            raise NoPlace("elder")


def refuse_bad_names_and_texts(edition, moves):
    """Raise an error for the first key of an edition, or of moves, that is no name, and for what is no text."""
    for name in list(edition) + list(moves):
        if not is_word(name):
            raise BadName(name)
    for content in edition.values():
        if not is_text(content):
            raise BadContent(content)


def received(file, content, renaming, answer, stop):
    """Let a file have an upgrade or a renaming; return the list of the troubles."""
    if renaming:
        return file.renamed(content, answer=answer, stop=stop)
    return file.upgrade(content, answer=answer, stop=stop)
