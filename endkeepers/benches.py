"""Benches: a row to which deeds are done, and tellers that are asked of it."""

from endkeepers.amounts import need
from endkeepers.books import book_error, is_bare
from endkeepers.bounds import MAX_EDITS, MAX_KINDS, MAX_ROW
from endkeepers.common import is_name, is_whole
from endkeepers.counting import least_like
from endkeepers.errors import NothingToRedo, NothingToUndo, Refused, TooMany, TooManyEdits, Unfit
from endkeepers.histories import told_apart
from endkeepers.joining import joined
from endkeepers.moving import after, open_deeds
from endkeepers.tellers import kinds, row_error, teller_error, told


class Bench:
    """A book, a row, and tellers under names; what was done can be undone, and done again."""

    def __init__(self, book, many):
        if book_error(book) is not None or not is_whole(many, 1, MAX_KINDS):
            raise Unfit()
        self.book = book
        self.many = many
        self.named = ()
        self.begun = ()
        self.deeds = ()
        self.row = ()
        self.version = 0
        self.undone = 0
        # What is read at the versions 0 and on, also at those that can be done again. All of
        # it are tuples, which never change: so twins may have the same ones.
        self._stages = [((), (), (), ())]

    def __eq__(self, other):
        return isinstance(other, Bench) and self._present() == other._present()

    def _present(self):
        """Return the tuple of all that equal benches have in common."""
        return self.book, self.many, self.named, self.row

    def add(self, name, value):
        """Give the teller value this name, in place of the one that had it; return the version."""
        if not is_name(name):
            raise Refused("name")
        if teller_error(value) is not None:
            raise Refused("teller")
        if kinds(value) != self.many:
            raise Refused("kinds")
        others = [pair for pair in self.named if pair[0] != name]
        return self._edited(tuple(sorted(others + [(name, value)])), self.begun, self.deeds, self.row)

    def drop(self, name):
        """Take the name from its teller; return the version."""
        if name not in [known for known, _ in self.named]:
            raise Refused("name")
        others = [pair for pair in self.named if pair[0] != name]
        return self._edited(tuple(others), self.begun, self.deeds, self.row)

    def load(self, value):
        """Begin anew with the row value; return the version."""
        wrong = row_error(self.many, value)
        if wrong is not None:
            raise Refused(wrong if isinstance(wrong, str) else wrong[0])
        return self._edited(self.named, value, (), value)

    def do(self, value):
        """Do the deed value to the row; return the version."""
        behind = after(self.book, self.many, self.row, value)
        return self._edited(self.named, self.begun, self.deeds + (value,), behind)

    def undo(self):
        """Take back the last edit that stands; return the version."""
        if self.version == 0:
            raise NothingToUndo()
        return self._stand_at(self.version - 1)

    def redo(self):
        """Do again the edit that was taken back last; return the version."""
        if self.undone == 0:
            raise NothingToRedo()
        return self._stand_at(self.version + 1)

    def _edited(self, named, begun, deeds, row):
        """Let one edit more stand, which leads to this, and return the version."""
        if self.version == MAX_EDITS:
            raise TooManyEdits()
        self._stages = self._stages[:self.version + 1] + [(named, begun, deeds, row)]
        return self._stand_at(self.version + 1)

    def _stand_at(self, version):
        """Go to a version, and return it."""
        self.named, self.begun, self.deeds, self.row = self._stages[version]
        self.version = version
        self.undone = len(self._stages) - 1 - version
        return version

    def twin(self):
        """Return a bench with the same edits; neither changes with the other."""
        other = Bench(self.book, self.many)
        other._stages = list(self._stages)
        other._stand_at(self.version)
        return other

    def opened(self):
        """Return the ascending tuple of the deeds that can be done to the row."""
        return open_deeds(self.book, self.many, self.row)

    def tells(self):
        """Return the tuple of the pairs of a name and what its teller tells of the row."""
        return tuple([(name, told(teller, self.row)) for name, teller in self.named])

    def needs_now(self):
        """Return the tuple of the pairs of a name and the need of its teller, for rows as long as the row."""
        return tuple([(name, need(teller, self.book, len(self.row))) for name, teller in self.named])

    def joint_need(self):
        """Return the need of all tellers kept at once, for rows as long as the row."""
        if not self.named or is_bare(self.book):
            raise Unfit()
        return need(joined(tuple([teller for _, teller in self.named])), self.book, len(self.row))

    def can_part(self, name, value):
        """Tell whether some deeds tell the row and the row value apart, for the teller of the name."""
        teller = self.teller_of(name)
        if not isinstance(value, tuple) or len(value) != len(self.row):
            raise Unfit()
        if not all([is_whole(letter, 0, self.many - 1) for letter in value]):
            raise Unfit()
        return told_apart(teller, self.book, self.row, value)

    def least_now(self, name):
        """Return the first row, of as many letters, that no deeds tell apart from the row, for this teller."""
        teller = self.teller_of(name)
        if is_bare(self.book):
            raise Unfit()
        if len(self.row) > MAX_ROW:
            raise TooMany(MAX_ROW)
        return least_like(teller, self.book, self.row)

    def teller_of(self, name):
        """Return the teller of the name; Unfit() if no teller has it."""
        for known, teller in self.named:
            if known == name:
                return teller
        raise Unfit()
