"""The refusals: each class stands for one kind, its fields tell where."""


class TableError(ValueError):
    """What all refusals stand under, but NoSuch."""


class Taken(TableError):
    """A row of the table has that key already."""

    def __init__(self, table, key):
        self.table = table
        self.key = key


class NoRow(TableError):
    """No row of the table has that key."""

    def __init__(self, table, key):
        self.table = table
        self.key = key


class Barred(TableError):
    """The row of that key leans by the tie, and the tie bars the deed."""

    def __init__(self, tie, key):
        self.tie = tie
        self.key = key


class Parted(TableError):
    """A cell is brought to two unlike worths."""

    def __init__(self, table, key, column):
        self.table = table
        self.key = key
        self.column = column


class Loose(TableError):
    """Rows lean on keys that are not there: pairs (tie, key)."""

    def __init__(self, pairs):
        # A copy: the field must not change with the list that was handed in.
        self.pairs = [tuple(pair) for pair in pairs]


class Stopped(TableError):
    """A rule bars the change of the row of that key."""

    def __init__(self, rule, table, key):
        self.rule = rule
        self.table = table
        self.key = key


class NoKey(TableError):
    """An act of the rule sets a key to nothing."""

    def __init__(self, rule):
        self.rule = rule


class TooMany(TableError):
    """More would be done than most."""

    def __init__(self, most):
        self.most = most


class Ring(TableError):
    """Rules set one another off, the last one the first."""

    def __init__(self, ring):
        # A copy: the field must not change with the list that was handed in.
        self.ring = list(ring)


class BadLine(TableError):
    """The line of that number is not written so, or cannot stand there."""

    def __init__(self, line):
        self.line = line


class Open(TableError):
    """A dealing is open already."""


class NotOpen(TableError):
    """No dealing is open."""


class NoSuch(LookupError):
    """Nothing of that name is there; what tells what was looked for."""

    def __init__(self, what, name):
        self.what = what
        self.name = name
