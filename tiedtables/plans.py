"""Tables: their names, their columns and the fallbacks of these."""

from tiedtables.errors import NoSuch
from tiedtables.things import are_unlike, is_name, is_tuple, is_worth

MOST_TABLES = 6
MOST_COLUMNS = 5
MOST_DEEDS = 40


def is_tables(thing):
    """Whether thing is tables."""
    if not is_tuple(thing, 1, MOST_TABLES):
        return False
    if not all([_is_table(part) for part in thing]):
        return False
    return are_unlike(table_names(thing))


def column_place(tables, table, column):
    """Which one of the table's columns it is, counted from 0."""
    names = column_names(tables, table)
    if column not in names:
        raise NoSuch("column", column)
    return names.index(column)


def fallback_of(tables, table, column):
    """The column's fallback."""
    place = column_place(tables, table, column)
    return _columns_of(tables, table)[place][1]


def table_names(tables):
    """The names of the tables, in order."""
    return [table for table, _ in tables]


def table_place(tables, table):
    """Which one of the tables it is, counted from 0."""
    names = table_names(tables)
    if table not in names:
        raise NoSuch("table", table)
    return names.index(table)


def key_column(tables, table):
    """The name of the table's first column."""
    return column_names(tables, table)[0]


def column_names(tables, table):
    """The names of the table's columns, in order, the key ahead."""
    return [column for column, _ in _columns_of(tables, table)]


def _columns_of(tables, table):
    for name, columns in tables:
        if name == table:
            return columns
    raise NoSuch("table", table)


def _is_table(thing):
    if not is_tuple(thing, 2, 2):
        return False
    table, columns = thing
    return is_name(table) and _is_columns(columns)


def _is_columns(thing):
    if not is_tuple(thing, 1, MOST_COLUMNS):
        return False
    if not all([_is_column(part) for part in thing]):
        return False
    # The first column is the key: it never falls back on anything.
    return thing[0][1] is None and are_unlike([column for column, _ in thing])


def _is_column(thing):
    if not is_tuple(thing, 2, 2):
        return False
    column, fallback = thing
    return is_name(column) and is_worth(fallback)
