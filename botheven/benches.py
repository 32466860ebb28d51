"""Benches of webs and standings, with edits that can be taken back."""

from botheven.bounds import MAX_EDITS
from botheven.errors import BothError, NothingToRedo, NothingToUndo, NoVersion, TooManyEdits
from botheven.evens import lot_base
from botheven.kinds import whole_within
from botheven.marks import marks_of
from botheven.shelves import edited, need_standing, need_web, place_of


class Bench:
    """A shelf of named webs with a standing each, the edits that made it, and those that were taken back."""

    def __init__(self):
        # Pairs of an edit and of the shelf behind it: those that stand, and those taken back, the last one last.
        self._stood = ()
        self._taken = ()
        self._shelf = ()
        self._names = ()
        # The bases that were made, by their webs.
        self._bases = {}

    def __len__(self):
        """Return how many names there are."""
        return len(self._names)

    def __getitem__(self, name):
        """Return the web and the standing of a name."""
        _, web, standing = self._shelf[place_of(self._shelf, name)]
        return web, standing

    def __iter__(self):
        """Go over the names, in order."""
        return iter(self._names)

    def __eq__(self, other):
        """Tell whether other is a bench with an equal shelf."""
        return isinstance(other, Bench) and self._shelf == other._shelf

    @property
    def shelf(self):
        """Return the shelf."""
        return self._shelf

    @property
    def version(self):
        """Return how many edits stand."""
        return len(self._stood)

    @property
    def log(self):
        """Return the edits that stand, in order."""
        return tuple([edit for edit, _ in self._stood])

    @property
    def made(self):
        """Return how many bases were made."""
        return len(self._bases)

    def search(self, web, standing):
        """Return the names whose web is equal and whose standing is joined with this one."""
        need_web(web)
        need_standing(web, standing)
        # Standings are led to one another just if they have the same marks.
        marks = marks_of(web, standing)
        return tuple([row[0] for row in self._shelf if row[1] == web and marks_of(web, row[2]) == marks])

    def _go_to(self, stood, taken):
        """Make these the edits that stand and those that were taken back."""
        self._stood = stood
        self._taken = taken
        self._shelf = stood[-1][1] if stood else ()
        self._names = tuple([row[0] for row in self._shelf])

    def edit(self, told):
        """Do an edit that is told as a tuple of its word and its arguments; return the new version."""
        shelf = edited(self._shelf, told)
        if len(self._stood) == MAX_EDITS:
            raise TooManyEdits()
        self._go_to(self._stood + ((told, shelf),), ())
        return self.version

    def add(self, name, web, standing):
        """Put a name on the shelf."""
        return self.edit(("add", name, web, standing))

    def drop(self, name):
        """Take a name off the shelf."""
        return self.edit(("drop", name))

    def tie(self, name, one, other, number):
        """Add a tie to a web, with a number."""
        return self.edit(("tie", name, one, other, number))

    def untie(self, name, place):
        """Take a tie out of a web."""
        return self.edit(("untie", name, place))

    def pinch(self, name, place):
        """Make both ends of a tie one place."""
        return self.edit(("pinch", name, place))

    def stand(self, name, standing):
        """Give a name another standing."""
        return self.edit(("stand", name, standing))

    def do(self, name, deeds):
        """Do deeds on a name's standing."""
        return self.edit(("do", name, deeds))

    def batch(self, edits):
        """Do some edits as one."""
        return self.edit(("batch", edits))

    def base(self, name):
        """Return the base of the both-even lots of a name's web; it is made once for equal webs."""
        web = self[name][0]
        if web not in self._bases:
            self._bases[web] = lot_base(web)
        return self._bases[web]

    def undo(self):
        """Take back the last edit that stands; return the version then."""
        if self._stood == ():
            raise NothingToUndo()
        self._go_to(self._stood[:-1], self._taken + (self._stood[-1],))
        return self.version

    def redo(self):
        """Do the edit again that was taken back last; return the version then."""
        if self._taken == ():
            raise NothingToRedo()
        self._go_to(self._stood + (self._taken[-1],), self._taken[:-1])
        return self.version

    def at(self, version):
        """Return the shelf when so many edits stood."""
        if not whole_within(version, 0, len(self._stood)):
            raise NoVersion(version)
        return self._stood[version - 1][1] if version > 0 else ()

    def copy(self):
        """Return a bench of its own that is as this one is."""
        other = Bench()
        other._bases = {web: self._bases[web] for web in self._bases}
        other._go_to(self._stood, self._taken)
        return other

    def attempt(self, work):
        """Return work of this bench; if it raises an error of the package, the bench is as it was ahead."""
        stood, taken = self._stood, self._taken
        try:
            return work(self)
        except BothError:
            self._go_to(stood, taken)
            raise
