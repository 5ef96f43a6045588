"""Contents: for each table, in order, the list of its rows, rising by keys."""

from tiedtables.errors import Taken
from tiedtables.plans import column_place, table_names, table_place
from tiedtables.things import is_tuple, is_worth

MOST_ROWS = 60


def is_content(tables, thing):
    """Whether thing is a content of these tables."""
    if not isinstance(thing, list) or len(thing) != len(tables):
        return False
    widths = [len(columns) for _, columns in tables]
    if not all([_is_rows(width, rows) for width, rows in zip(widths, thing)]):
        return False
    return sum([len(rows) for rows in thing]) <= MOST_ROWS


def row_of(tables, content, table, key):
    """The table's row of that key, None where there is none."""
    for row in content[table_place(tables, table)]:
        if row[0] == key:
            return tuple(row)
    return None


def changed(tables, content, gone, cells, rows):
    """The content without the rows gone, with the cells so set, and the rows put in."""
    left = {(table, key): True for table, key in gone}
    sets = sets_by_row(tables, cells)
    told = []
    for name in table_names(tables):
        fresh = [tuple(row) for table, row in rows if table == name]
        for row in rows_of(tables, content, name):
            at = (name, row[0])
            if at not in left:
                fresh.append(with_sets(row, sets.get(at, [])))
        told.append(_risen(name, fresh))
    return told


def rows_of(tables, content, table):
    """The table's rows, rising by keys, a list of tuples."""
    return [tuple(row) for row in content[table_place(tables, table)]]


def sets_by_row(tables, cells):
    """By (table, key) the pairs (place, worth) of that row's cells."""
    sets = {}
    for table, key, column, worth in cells:
        place = column_place(tables, table, column)
        sets.setdefault((table, key), []).append((place, worth))
    return sets


def with_sets(row, sets):
    """The row with each (place, worth) of the sets in it."""
    worths = list(row)
    for place, worth in sets:
        worths[place] = worth
    return tuple(worths)


def is_row(width, thing):
    """Whether thing is a row of a table of so many columns."""
    if not is_tuple(thing, width, width) or thing[0] is None:
        return False
    return all([is_worth(worth) for worth in thing])


def _risen(table, rows):
    """The rows, rising by keys; refused where two of them have one key."""
    risen = sorted(rows, key=lambda row: row[0])
    for row, after in zip(risen, risen[1:]):
        if row[0] == after[0]:
            raise Taken(table, row[0])
    return risen


def _is_rows(width, thing):
    if not isinstance(thing, list):
        return False
    if not all([is_row(width, row) for row in thing]):
        return False
    return all([row[0] < after[0] for row, after in zip(thing, thing[1:])])
