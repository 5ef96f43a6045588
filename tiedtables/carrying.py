"""What a deed brings to the rows that lean on what it does.

A step is a row that goes, ("gone", table, key), or a cell that is brought to
a worth, ("cell", table, key, column, worth), of the key as it was ahead.
"""

from tiedtables.contents import changed, row_of
from tiedtables.deeds import own_part
from tiedtables.errors import Barred, Loose, Parted
from tiedtables.leaning import leaners_of, leans_by, loose
from tiedtables.plans import column_place, fallback_of, key_column, table_place
from tiedtables.ties import ties_on


def brought(plan, content, deed):
    """The rows that go and the cells that are changed, those of the deed itself among them."""
    return brought_by(plan, content, spread(plan, content, deed))


def bars(plan, content, deed):
    """All pairs (tie, key) that bar the deed: the row of that key leans by the tie."""
    return _bars_of(plan, content, spread(plan, content, deed))


def parts(plan, content, deed):
    """All cells that are brought to unlike worths, each with these."""
    return _parts_of(plan[0], spread(plan, content, deed))


def carried(plan, content, deed):
    """The content behind the deed and all that it brings."""
    gone, cells = brought(plan, content, deed)
    _, _, rows = own_part(plan[0], content, deed)
    return settled(plan, content, gone, cells, rows)


def settled(plan, content, gone, cells, rows):
    """The content so changed, refused where a tie of "once" is loose in it."""
    told = changed(plan[0], content, gone, cells, rows)
    pairs = loose(plan, told, when="once")
    if pairs:
        raise Loose(pairs)
    return told


def spread(plan, content, deed):
    """All steps that the deed brings, those nearest to it ahead: by each what it came of.

    That is None where the deed itself does it, else a pair of the step that it
    came straight of and the (tie, key) by which it did: of the nearest such steps
    the first one, rising, and of several ties the first.
    """
    leaners = leaners_of(plan, content)
    first = own_steps(plan[0], content, deed)
    # Whether a row goes hangs on no cell: a round that spares no cell tells who goes.
    going = rows_going(list(_reached(plan, leaners, first, {})))
    return _reached(plan, leaners, first, going)


def brought_by(plan, content, came):
    """What brought tells of the steps that spread tells, and refuses of them."""
    barring = _bars_of(plan, content, came)
    if barring:
        tie, key = barring[0]
        raise Barred(tie, key)
    parted = _parts_of(plan[0], came)
    if parted:
        table, key, column, _ = parted[0]
        raise Parted(table, key, column)
    steps = risen_steps(plan[0], list(came))
    gone = [step[1:] for step in steps if step[0] == "gone"]
    cells = [step[1:] for step in steps if step[0] == "cell"]
    return (gone, [cell for cell in cells if not _stays(plan[0], content, cell)])


def own_steps(tables, content, deed):
    """The steps that the deed does by itself, rising."""
    gone, cells, _ = own_part(tables, content, deed)
    return [("gone", *row) for row in gone] + [("cell", *cell) for cell in cells]


def steps_behind(plan, leaners, step):
    """What comes straight of a step: pairs of the (tie, key) by which, and the step.

    Cells of rows that go are told, too.
    """
    if step[0] == "cell" and not _turns(plan[0], step):
        return []
    told = []
    for tie in ties_on(plan, step[1]):
        for key in leaners[tie[0]].get(step[2], []):
            behind = _step_by(plan[0], tie, key, step)
            if behind is not None:
                told.append(((tie[0], key), behind))
    return told


def rows_going(steps):
    """The (table, key) of the steps that are rows that go, in a dict of True."""
    return {step[1:]: True for step in steps if step[0] == "gone"}


def is_of_going(step, going):
    """Whether the step is a cell of one of the rows that go."""
    return step[0] == "cell" and step[1:3] in going


def risen_steps(tables, steps):
    """The steps, rising: rows that go ahead of cells."""
    return sorted(steps, key=lambda step: _step_rank(tables, step))


def _reached(plan, leaners, first, going):
    """As spread tells it, cells of the rows that go left out."""
    came = {step: None for step in first}
    level = first
    while level:
        found = []
        for step in risen_steps(plan[0], level):
            for pair, behind in steps_behind(plan, leaners, step):
                if behind not in came and not is_of_going(behind, going):
                    came[behind] = (step, pair)
                    found.append(behind)
        level = found
    return came


def _turns(tables, step):
    """Whether the cell is a key's that is brought to another worth."""
    _, table, key, column, worth = step
    return column == key_column(tables, table) and worth != key


def _step_by(tables, tie, key, step):
    """What the tie makes of the row of that key, which leans on the step's; None of nothing."""
    _, table, column, _, gone, turned, _ = tie
    how = gone if step[0] == "gone" else turned
    if how == "empty":
        return ("cell", table, key, column, None)
    if how == "fallback":
        return ("cell", table, key, column, fallback_of(tables, table, column))
    if how != "carry":
        return None
    if step[0] == "gone":
        return ("gone", table, key)
    return ("cell", table, key, column, step[4])


def _step_rank(tables, step):
    if step[0] == "gone":
        return (0, table_place(tables, step[1]), step[2])
    _, table, key, column, worth = step
    at = (table_place(tables, table), key, column_place(tables, table, column))
    # Nothing stands ahead of all numbers.
    return (1, *at, worth is not None, worth or 0)


def _bars_of(plan, content, came):
    going = rows_going(list(came))
    turning = {step[1:3]: True for step in came if step[0] == "cell" and _turns(plan[0], step)}
    told = []
    for tie in plan[1]:
        name, table, _, other, _, _, _ = tie
        for low, high in leans_by(plan, content, tie):
            if (table, low) not in going and _is_barred(tie, (other, high), going, turning):
                told.append((name, low))
    return told


def _is_barred(tie, row, going, turning):
    """Whether the tie bars what becomes of that row, on which one leans by it."""
    _, _, _, _, gone, turned, _ = tie
    return gone == "bar" and row in going or turned == "bar" and row in turning


def _parts_of(tables, came):
    worths = {}
    for step in risen_steps(tables, [step for step in came if step[0] == "cell"]):
        worths.setdefault(step[1:4], []).append(step[4])
    return [(*cell, tuple(many)) for cell, many in worths.items() if len(many) > 1]


def _stays(tables, content, cell):
    """Whether the cell has the worth already to which it is brought."""
    table, key, column, worth = cell
    row = row_of(tables, content, table, key)
    return row[column_place(tables, table, column)] == worth
