"""Journals: what was changed, each change with what it came of.

An entry is a tuple (deed, table, key, column, old, new, cause).
"""

from tiedtables.contents import changed, row_of
from tiedtables.plans import column_place
from tiedtables.things import is_same


def gone_through(tables, content, journal):
    """The content behind the journal, the entries of each deed done at once."""
    by_deed = {}
    for entry in journal:
        by_deed.setdefault(entry[0], []).append(entry)
    told = changed(tables, content, [], [], [])
    for entries in by_deed.values():
        gone, cells, rows = _part_of(entries)
        told = changed(tables, told, gone, cells, rows)
    return told


def source_of(journal, number):
    """The numbers from that entry back to one that the deed handed in did itself."""
    told = [number]
    cause = journal[number][6]
    while cause[0] != "deed":
        told.append(cause[2])
        cause = journal[cause[2]][6]
    return told


def shows_journal(tables, content, journal, thing):
    """Whether thing is the content to which the journal comes."""
    return is_same(thing, gone_through(tables, content, journal))


def entries_of(tables, content, part, came, first, cause):
    """A deed's entries, numbered from first on, without the deed's number.

    The part is all that is changed, (gone, cells, rows), came what spread tells,
    and cause is of what the deed does by itself.
    """
    gone, cells, rows = part
    lines = [(*at, None, row_of(tables, content, *at), None) for at in gone]
    lines.extend([_cell_line(tables, content, cell) for cell in cells])
    lines.extend([(table, row[0], None, None, row) for table, row in rows])
    steps = [("gone", *at) for at in gone] + [("cell", *cell) for cell in cells]
    # Rows are put in by the deed itself alone.
    causes = _causes_of(came, steps, first, cause) + [cause for _ in rows]
    return [(*line, own) for line, own in zip(lines, causes)]


def numbered_on(journal, entries):
    """The entries of one more run as they stand behind the journal, numbered on from it."""
    first = len(journal)
    deeds = max([entry[0] + 1 for entry in journal], default=0)
    return [(deeds + entry[0], *entry[1:6], _cause_on(entry[6], first)) for entry in entries]


def row_numbers(entries, first):
    """By (table, key) the number of the row's first entry, counted from first on."""
    told = {}
    for number, entry in enumerate(entries, first):
        told.setdefault((entry[1], entry[2]), number)
    return told


def _cause_on(cause, first):
    """The cause with its entry, where it has one, counted from first on."""
    return cause if cause[0] == "deed" else (*cause[:2], first + cause[2])


def _part_of(entries):
    """The rows gone, the cells and the rows put in of a deed's entries."""
    gone, cells, rows = [], [], []
    for _, table, key, column, _, new, _ in entries:
        if column is not None:
            cells.append((table, key, column, new))
        elif new is None:
            gone.append((table, key))
        else:
            rows.append((table, new))
    return (gone, cells, rows)


def _cell_line(tables, content, cell):
    table, key, column, worth = cell
    row = row_of(tables, content, table, key)
    return (table, key, column, row[column_place(tables, table, column)], worth)


def _causes_of(came, steps, first, cause):
    """What each step came of, the cause where the deed itself does it."""
    numbers = {step: first + at for at, step in enumerate(steps)}
    told = []
    for step in steps:
        if came[step] is None:
            told.append(cause)
        else:
            earlier, pair = came[step]
            told.append(("tie", pair[0], numbers[earlier]))
    return told
