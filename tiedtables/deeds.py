"""Deeds: what may be done to a content, and what each does by itself."""

from tiedtables.contents import is_row, row_of, rows_of
from tiedtables.errors import NoRow, Taken
from tiedtables.plans import column_names, column_place, table_names
from tiedtables.things import is_bounded, is_tuple, is_worth

# How many parts each kind of deed has, the kind itself among them.
LENGTHS = {"put": 3, "drop": 3, "set": 5, "sweep": 4, "shift": 4}


def is_deed(tables, thing):
    """Whether thing is a deed to a content of these tables."""
    if not is_tuple(thing, 3, 5) or not isinstance(thing[0], str):
        return False
    if len(thing) != LENGTHS.get(thing[0], 0) or thing[1] not in table_names(tables):
        return False
    kind, table = thing[:2]
    columns = column_names(tables, table)
    if kind == "put":
        return is_row(len(columns), thing[2])
    if kind == "drop":
        return is_bounded(thing[2])
    if kind == "set":
        return is_bounded(thing[2]) and _is_cell(columns, thing[3], thing[4])
    if kind == "sweep":
        return thing[2] in columns and is_worth(thing[3])
    return thing[2] in columns and is_bounded(thing[3])


def own_part(tables, content, deed):
    """What the deed does by itself: the rows gone, the cells and the rows put in."""
    kind = deed[0]
    if kind == "put":
        return ([], [], _rows_put(tables, content, deed))
    if kind == "drop":
        return (_rows_dropped(tables, content, deed), [], [])
    if kind == "set":
        return ([], _cells_set(tables, content, deed), [])
    if kind == "sweep":
        return (_rows_swept(tables, content, deed), [], [])
    return ([], _cells_shifted(tables, content, deed), [])


def _rows_put(tables, content, deed):
    _, table, row = deed
    if row_of(tables, content, table, row[0]) is not None:
        raise Taken(table, row[0])
    return [(table, tuple(row))]


def _rows_dropped(tables, content, deed):
    _, table, key = deed
    _row_there(tables, content, table, key)
    return [(table, key)]


def _cells_set(tables, content, deed):
    _, table, key, column, worth = deed
    row = _row_there(tables, content, table, key)
    if row[column_place(tables, table, column)] == worth:
        return []
    return [(table, key, column, worth)]


def _rows_swept(tables, content, deed):
    _, table, column, worth = deed
    place = column_place(tables, table, column)
    rows = rows_of(tables, content, table)
    return [(table, row[0]) for row in rows if row[place] == worth]


def _cells_shifted(tables, content, deed):
    _, table, column, by = deed
    if by == 0:
        return []
    place = column_place(tables, table, column)
    rows = [row for row in rows_of(tables, content, table) if row[place] is not None]
    return [(table, row[0], column, row[place] + by) for row in rows]


def _row_there(tables, content, table, key):
    row = row_of(tables, content, table, key)
    if row is None:
        raise NoRow(table, key)
    return row


def _is_cell(columns, column, worth):
    """Whether the worth may stand in that column: in a key's, nothing may not."""
    if column not in columns:
        return False
    return is_bounded(worth) if column == columns[0] else is_worth(worth)
