"""Who leans on whom, and who leans on nothing that is there."""

from tiedtables.contents import row_of, rows_of
from tiedtables.plans import column_place
from tiedtables.ties import tie_of


def leaning(plan, content, tie, *, key):
    """The rising list of the keys of the rows that lean by the tie on that key."""
    pairs = leans_by(plan, content, tie_of(plan, tie))
    return [low for low, high in pairs if high == key]


def loose(plan, content, *, when=None):
    """The pairs (tie, key) of the rows that lean on a key that is not there."""
    told = []
    for tie in plan[1]:
        if when is None or tie[6] == when:
            there = {row[0]: True for row in rows_of(plan[0], content, tie[3])}
            pairs = leans_by(plan, content, tie)
            told.extend([(tie[0], low) for low, high in pairs if high not in there])
    return told


def holds(plan, content):
    """Whether no row leans on a key that is not there."""
    return not loose(plan, content)


def leans_on(plan, content, table, key):
    """The (tie, other, key) of all rows on which that row leans and which are there."""
    tables = plan[0]
    row = row_of(tables, content, table, key)
    if row is None:
        return []
    told = []
    for tie, low, column, other, _, _, _ in plan[1]:
        if low == table:
            worth = row[column_place(tables, table, column)]
            if row_of(tables, content, other, worth) is not None:
                told.append((tie, other, worth))
    return told


def leans_by(plan, content, tie):
    """The pairs (low, high), rising by low: the row of key low leans by the tie on key high."""
    _, table, column, _, _, _, _ = tie
    place = column_place(plan[0], table, column)
    rows = rows_of(plan[0], content, table)
    return [(row[0], row[place]) for row in rows if row[place] is not None]


def leaners_of(plan, content):
    """By the tie's name, and then by a key, the rising list of the keys that lean on it."""
    leaners = {}
    for tie in plan[1]:
        by_key = {}
        for low, high in leans_by(plan, content, tie):
            by_key.setdefault(high, []).append(low)
        leaners[tie[0]] = by_key
    return leaners
