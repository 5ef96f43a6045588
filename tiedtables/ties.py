"""Ties: by which column a table's rows lean on rows of another table."""

from tiedtables.errors import NoSuch
from tiedtables.plans import column_names, table_names
from tiedtables.things import are_unlike, is_name, is_tuple

MOST_TIES = 10
TIE_PARTS = 7
WAYS = ("bar", "carry", "empty", "fallback", "look")
# A key is never nothing, and its fallback is: neither could be set there.
KEY_WAYS = ("bar", "carry", "look")
TIMES = ("once", "end")


def is_ties(tables, thing):
    """Whether thing is ties of these tables."""
    if not is_tuple(thing, 0, MOST_TIES):
        return False
    if not all([_is_tie(tables, part) for part in thing]):
        return False
    return are_unlike([part[0] for part in thing])


def tie_of(plan, tie):
    """The plan's tie of that name, its whole tuple."""
    for part in plan[1]:
        if part[0] == tie:
            return tuple(part)
    raise NoSuch("tie", tie)


def ties_on(plan, table):
    """The plan's ties by which rows lean on rows of the table, in order."""
    return [tuple(part) for part in plan[1] if part[3] == table]


def _is_tie(tables, thing):
    if not is_tuple(thing, TIE_PARTS, TIE_PARTS):
        return False
    tie, table, column, other, gone, turned, when = thing
    names = table_names(tables)
    if not is_name(tie) or table not in names or other not in names:
        return False
    columns = column_names(tables, table)
    if column not in columns:
        return False
    ways = KEY_WAYS if column == columns[0] else WAYS
    return gone in ways and turned in ways and when in TIMES
