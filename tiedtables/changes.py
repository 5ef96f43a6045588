"""Changes: what becomes of the rows by a deed, one change for each row.

A change is a tuple (kind, table, old, new): ("put", table, None, row),
("drop", table, row, None), or ("set", table, old, new) with the whole rows.
"""

from tiedtables.contents import rows_of, sets_by_row, with_sets
from tiedtables.plans import column_place, table_names


def changes_of(tables, content, gone, cells, rows):
    """The changes, tables in order, then by keys as they are ahead of the deed."""
    left = {(table, key): True for table, key in gone}
    sets = sets_by_row(tables, cells)
    told = []
    for table in table_names(tables):
        # A row that is put in is the only change of its deed: it needs no place among others.
        told.extend([("put", table, None, row) for name, row in rows if name == table])
        for row in rows_of(tables, content, table):
            at = (table, row[0])
            if at in left:
                told.append(("drop", table, row, None))
            elif at in sets:
                told.append(("set", table, row, with_sets(row, sets[at])))
    return told


def key_of(change):
    """The key of the change's row ahead of the deed, a put's own."""
    _, _, old, new = change
    return new[0] if old is None else old[0]


def is_watched(tables, rule, change):
    """Whether the rule watches such a change; a set by the column, where it has one."""
    _, _, table, kind, column, _, _ = rule
    if change[0] != kind or change[1] != table:
        return False
    if column is None:
        return True
    place = column_place(tables, table, column)
    return change[2][place] != change[3][place]
