"""The store: it keeps tables over many deeds, in dealings, with points to go back to."""

from tiedtables.contents import row_of
from tiedtables.errors import Loose, NoSuch, NotOpen, Open, Ring, TableError
from tiedtables.journals import numbered_on, source_of
from tiedtables.leaning import loose
from tiedtables.plans import MOST_DEEDS
from tiedtables.ranks import ranks
from tiedtables.running import ran
from tiedtables.things import tupled


class Store:
    """Tables that deeds are done to.

    No list that an attribute holds is changed: another one is put in its place, so
    that a point may keep what stood by holding it.
    """

    def __init__(self, plan, *, content=(), most=MOST_DEEDS):
        self._plan = tupled(plan)
        _, ring = ranks(self._plan)
        if ring is not None:
            raise Ring(ring)
        self._content = _copied(content) if content else [[] for _ in self._plan[0]]
        pairs = loose(self._plan, self._content)
        if pairs:
            raise Loose(pairs)
        self._most = most
        self._journal = []
        self._book = []
        # By the number of each dealing the content behind it.
        self._stood = []
        # What stood as the dealing began that is open, (content, journal); None of none.
        self._begun = None
        # The points of that dealing, in order, each (name, content, journal).
        self._points = []

    def do(self, deed):
        """Do the deed and all that rules make of it; told are its journal's entries."""
        try:
            content, entries = ran(self._plan, self._content, deed, most=self._most)
        except TableError:
            self._write_single("refused", len(self._journal))
            raise
        # Within a dealing rows may lean on what is not there till it ends.
        pairs = [] if self.is_open() else loose(self._plan, content, when="end")
        if pairs:
            self._write("loose", len(self._journal))
            raise Loose(pairs)
        first = len(self._journal)
        told = numbered_on(self._journal, entries)
        self._content, self._journal = content, self._journal + told
        self._write_single("done", first)
        return told

    def content(self):
        """What stands: for each table the list of its rows."""
        return _copied(self._content)

    def row(self, table, key):
        """The table's row of that key, None where there is none."""
        return row_of(self._plan[0], self._content, table, key)

    def journal(self, *, first=0):
        """The entries from that number on."""
        return self._journal[max(first, 0):]

    def begin(self):
        """Open a dealing."""
        if self.is_open():
            raise Open()
        self._begun = (self._content, self._journal)

    def point(self, *, name=""):
        """Set a point to go back to, in place of an earlier one so called."""
        self._ask_open()
        points = [point for point in self._points if point[0] != name]
        self._points = points + [(name, self._content, self._journal)]

    def back(self, *, to=""):
        """Undo all that was done behind the point; later points are no more."""
        self._ask_open()
        names = [point[0] for point in self._points]
        if to in names:
            at = names.index(to)
            _, self._content, self._journal = self._points[at]
            self._points = self._points[:at + 1]
        elif to == "":
            self._undo()
            self._points = []
        else:
            raise NoSuch("point", to)

    def leave(self):
        """Undo all that was done in the dealing; it is over."""
        self._ask_open()
        self._undo()
        self._write("left", len(self._journal))

    def end(self):
        """The dealing is over and stands, told is its number; undone where a tie is loose."""
        self._ask_open()
        pairs = loose(self._plan, self._content)
        if pairs:
            self._undo()
            self._write("loose", len(self._journal))
            raise Loose(pairs)
        return self._write("done", len(self._begun[1]))

    def is_open(self):
        """Whether a dealing is open."""
        return self._begun is not None

    def book(self):
        """All dealings that are over, (number, first, behind, word), in order."""
        return list(self._book)

    def since(self, number):
        """A store of its own, as this one stood behind that dealing."""
        if number not in range(len(self._book)) or self._book[number][3] != "done":
            raise NoSuch("dealing", number)
        other = self.twin()
        other._content = self._stood[number]
        other._journal = self._journal[:self._book[number][2]]
        other._book = self._book[:number + 1]
        other._stood = self._stood[:number + 1]
        other._begun = None
        other._points = []
        return other

    def why(self, number):
        """The numbers from that entry back to one that a deed handed in did itself."""
        if number not in range(len(self._journal)):
            raise NoSuch("entry", number)
        return source_of(self._journal, number)

    def twin(self):
        """A store of its own that tells the same, its open dealing and its points too."""
        other = Store(self._plan, most=self._most)
        other._content = self._content
        other._journal = self._journal
        other._book = self._book
        other._stood = self._stood
        other._begun = self._begun
        other._points = self._points
        return other

    def __len__(self):
        return len([row for rows in self._content for row in rows])

    def __eq__(self, other):
        if not isinstance(other, Store):
            return False
        return self._plan == other._plan and self._content == other._content

    def _ask_open(self):
        if not self.is_open():
            raise NotOpen()

    def _undo(self):
        """What stood as the dealing began stands again."""
        self._content, self._journal = self._begun

    def _write_single(self, word, first):
        """Write down a deed's own dealing; within one that is open a deed has none."""
        if not self.is_open():
            self._write(word, first)

    def _write(self, word, first):
        """The dealing is over: it stands in the book by that word, told is its number."""
        number = len(self._book)
        self._book = self._book + [(number, first, len(self._journal), word)]
        self._stood = self._stood + [self._content]
        self._begun = None
        self._points = []
        return number


def _copied(content):
    """The content, its rows tuples, in lists of its own."""
    return [[tuple(row) for row in rows] for rows in content]
