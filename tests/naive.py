"""What comes of a deed, worked out by going round till nothing new comes.

It is written from the document's words alone and shares nothing with the
package, so that both can be held against each other. Slow, and meant so.
"""


def table_at(plan, table):
    return [name for name, _ in plan[0]].index(table)


def columns_of(plan, table):
    return [column for column, _ in plan[0][table_at(plan, table)][1]]


def key_of(plan, table):
    return columns_of(plan, table)[0]


def fallback(plan, table, column):
    return dict(plan[0][table_at(plan, table)][1])[column]


def all_rows(plan, content):
    """{(table, key): {column: worth}}"""
    told = {}
    for (table, _), rows in zip(plan[0], content):
        for row in rows:
            told[table, row[0]] = dict(zip(columns_of(plan, table), row))
    return told


def leanings(plan, content):
    """All (tie, low table, low key, high table, high key), whether it's there or not."""
    told = []
    rows = all_rows(plan, content)
    for tie in plan[1]:
        for (table, key), row in rows.items():
            if table == tie[1] and row[tie[2]] is not None:
                told.append((tie, table, key, tie[3], row[tie[2]]))
    return told


def own(plan, content, deed):
    """(gone, cells), sets."""
    rows = all_rows(plan, content)
    kind, table = deed[:2]
    gone, cells = set(), set()
    for (name, key), row in rows.items():
        if name != table:
            continue
        if kind == "drop" and key == deed[2]:
            gone.add((table, key))
        if kind == "sweep" and row[deed[2]] == deed[3]:
            gone.add((table, key))
        if kind == "set" and key == deed[2] and row[deed[3]] != deed[4]:
            cells.add((table, key, deed[3], deed[4]))
        if kind == "shift" and row[deed[2]] is not None and deed[3]:
            cells.add((table, key, deed[2], row[deed[2]] + deed[3]))
    return gone, cells


def turned_to(plan, gone, cells, row):
    table, key = row
    if row in gone:
        return set()
    name = key_of(plan, table)
    return {cell[3] for cell in cells if cell[:3] == (table, key, name) and cell[3] != key}


def spread(plan, content, deed):
    """(gone, cells), sets; cells of rows that stay as they were are among them."""
    gone, cells = own(plan, content, deed)
    leans = leanings(plan, content)
    while True:
        more = {(low, k) for tie, low, k, high, h in leans
                if tie[4] == "carry" and (high, h) in gone} - gone
        if not more:
            break
        gone |= more
    while True:
        more = set()
        for tie, low, k, high, h in leans:
            if (low, k) in gone:
                continue
            tos = [(tie[5], worth) for worth in turned_to(plan, gone, cells, (high, h))]
            if (high, h) in gone:
                tos.append((tie[4] if tie[4] != "carry" else "look", None))
            for way, worth in tos:
                made = {"carry": worth, "empty": None, "fallback": fallback(plan, low, tie[2])}
                if way in made:
                    more.add((low, k, tie[2], made[way]))
        if not more - cells:
            return gone, cells
        cells |= more


def rank_worth(worth):
    return (worth is not None, worth or 0)


def rank(plan, cell):
    """For (table, key), (table, key, column) and (table, key, column, worth)."""
    told = [table_at(plan, cell[0]), cell[1]]
    if len(cell) > 2:
        told.append(columns_of(plan, cell[0]).index(cell[2]))
    if len(cell) > 3:
        told.append(rank_worth(cell[3]))
    return told


def risen(plan, cells):
    return sorted(cells, key=lambda cell: rank(plan, cell))


def bars(plan, content, deed):
    gone, cells = spread(plan, content, deed)
    told = []
    for tie, low, k, high, h in leanings(plan, content):
        stays = (low, k) not in gone
        if stays and tie[4] == "bar" and (high, h) in gone:
            told.append((tie[0], k))
        elif stays and tie[5] == "bar" and turned_to(plan, gone, cells, (high, h)):
            told.append((tie[0], k))
    return told


def parts(plan, content, deed):
    _, cells = spread(plan, content, deed)
    told = []
    for at in risen(plan, {cell[:3] for cell in cells}):
        worths = sorted([cell[3] for cell in cells if cell[:3] == at], key=rank_worth)
        if len(worths) > 1:
            told.append((*at, tuple(worths)))
    return told


def brought(plan, content, deed):
    """Of a deed that nothing bars or parts."""
    gone, cells = spread(plan, content, deed)
    rows = all_rows(plan, content)
    changed = [cell for cell in cells if rows[cell[:2]][cell[2]] != cell[3]]
    return risen(plan, gone), risen(plan, changed)


def behind(plan, content, deed):
    """The content behind it all; None where two rows have one key."""
    gone, cells = brought(plan, content, deed)
    rows = all_rows(plan, content)
    for table, key, column, worth in cells:
        rows[table, key][column] = worth
    told = []
    for table, _ in plan[0]:
        mine = [tuple(row.values()) for at, row in rows.items() if at[0] == table and at not in gone]
        if deed[0] == "put" and deed[1] == table:
            mine.append(tuple(deed[2]))
        told.append(sorted(mine, key=lambda row: row[0]))
        if len({row[0] for row in mine}) < len(mine):
            return None
    return told


def loose(plan, content, when):
    rows = all_rows(plan, content)
    return [(tie[0], k) for tie, _, k, high, h in leanings(plan, content)
            if tie[6] in when and (high, h) not in rows]


def ways(plan, content, deed, most):
    """All ways of at most so many pairs: by each the row that goes or the (cell, worth)."""
    first_gone, first_cells = own(plan, content, deed)
    gone, cells = spread(plan, content, deed)
    told = [([], row, None) for row in first_gone]
    told += [([], cell, None) for cell in first_cells]
    # A way goes on from a row that goes, or from a row and the worth it is turned to.
    level = [([], row, None) for row in first_gone]
    level += [([], cell[:2], cell[3]) for cell in first_cells if cell[2] == key_of(plan, cell[0])]
    leans = leanings(plan, content)
    for _ in range(most):
        further = []
        for way, row, worth in level:
            for tie, low, k, high, h in leans:
                if (high, h) != row or (tie[0], k) in way:
                    continue
                longer = way + [(tie[0], k)]
                if row in gone and tie[4] == "carry":
                    told.append((longer, (low, k), None))
                    further.append((longer, (low, k), None))
                    continue
                how = tie[4] if row in gone else tie[5]
                made = {"carry": worth, "empty": None, "fallback": fallback(plan, low, tie[2])}
                if (low, k) in gone or how not in made:
                    continue
                told.append((longer, (low, k, tie[2], made[how]), None))
                if how == "carry" and tie[2] == key_of(plan, low) and made[how] != k:
                    further.append((longer, (low, k), made[how]))
        level = further
    return [(way, aim) for way, aim, _ in told]


def steps_next(plan, content, deed, steps):
    first_gone, first_cells = own(plan, content, deed)
    going = {step[1:] for step in steps if step[0] == "gone"}
    set_by_then = {step[1:] for step in steps if step[0] == "cell"}
    gone, cells = set(first_gone), set(first_cells)
    for tie, low, k, high, h in leanings(plan, content):
        if (high, h) in going and tie[4] == "carry":
            gone.add((low, k))
        if (low, k) in going:
            continue
        tos = [(tie[5], worth) for worth in turned_to(plan, going, set_by_then, (high, h))]
        if (high, h) in going:
            tos.append((tie[4] if tie[4] != "carry" else "look", None))
        for way, worth in tos:
            made = {"carry": worth, "empty": None, "fallback": fallback(plan, low, tie[2])}
            if way in made:
                cells.add((low, k, tie[2], made[way]))
    told = [("gone", *row) for row in risen(plan, gone)]
    told += [("cell", *cell) for cell in risen(plan, cells)]
    return [step for step in told if step not in steps]
