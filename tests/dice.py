"""Plans, contents and deeds made from a number, the same ones each time."""

WAYS = ("bar", "carry", "carry", "carry", "empty", "fallback", "look")
KEY_WAYS = ("bar", "carry", "carry", "carry", "look")
COLUMNS = "kxyz"


class Dice:
    """Numbers that look cast, told by a seed alone."""

    def __init__(self, seed):
        self.now = seed * 7919 + 1

    def below(self, many):
        self.now = (self.now * 6364136223846793005 + 1442695040888963407) % 2 ** 64
        return (self.now >> 33) % many

    def one_of(self, parts):
        return parts[self.below(len(parts))]


def cast_tables(dice):
    told = []
    for name in "dacb"[:1 + dice.below(4)]:
        fallbacks = [None] + [dice.one_of((None, 0, 1, 2)) for _ in range(dice.below(4))]
        told.append((name, tuple(zip(COLUMNS, fallbacks))))
    return tuple(told)


def cast_ties(dice, tables):
    told = []
    for name in "tsrqpon"[:dice.below(8)]:
        table, columns = dice.one_of(tables)
        column = dice.one_of(columns)[0]
        ways = KEY_WAYS if column == "k" else WAYS
        other = dice.one_of(tables)[0]
        when = dice.one_of(("once", "end"))
        told.append((name, table, column, other, dice.one_of(ways), dice.one_of(ways), when))
    return tuple(told)


def cast_content(dice, tables):
    told = []
    for _, columns in tables:
        keys = [key for key in range(6) if dice.below(2)]
        rows = [(key, *[dice.one_of((None, 0, 1, 2, 3, 4, 5)) for _ in columns[1:]]) for key in keys]
        told.append(rows)
    return told


def cast_deed(dice, tables):
    table, columns = dice.one_of(tables)
    kind = dice.one_of(("put", "drop", "set", "set", "sweep", "shift", "shift"))
    key, column = dice.below(6), dice.one_of(columns)[0]
    worth = dice.one_of((None, 0, 1, 2, 7))
    if kind == "put":
        return (kind, table, (key, *[worth for _ in columns[1:]]))
    if kind == "drop":
        return (kind, table, key)
    if kind == "set":
        return (kind, table, key, column, dice.below(9) if column == "k" else worth)
    if kind == "sweep":
        return (kind, table, column, worth)
    return (kind, table, column, dice.one_of((-1, 0, 1, 10)))


def cast(seed):
    """A plan, a content and a deed."""
    dice = Dice(seed)
    tables = cast_tables(dice)
    plan = (tables, cast_ties(dice, tables), ())
    return plan, cast_content(dice, tables), cast_deed(dice, tables)


def cast_place(dice, columns, side, kind):
    """A place that a rule's test or act may name."""
    worths = [None, 0, 1, 2, 3, 4, 5, 8]
    if side == "deed":
        return dice.one_of(worths + [("many",)] * 4)
    read = [("old", column) for column in columns if kind != "put"]
    read += [("new", column) for column in columns if kind != "drop"]
    return dice.one_of(worths + read * 3)


def cast_act(dice, tables, columns, side, kind):
    how = dice.one_of(("put", "drop", "set", "set", "add", "add", "add"))
    table, there = dice.one_of(tables)
    places = [cast_place(dice, columns, side, kind) for _ in there]
    if how == "put":
        return (how, table, (dice.one_of((places[0], 6, 7, 8, 9)), *places[1:]))
    if how == "drop":
        return (how, table, places[0])
    # Keys are set seldom: that goes on to all that leans on them.
    column = there[-1][0] if dice.below(4) else there[0][0]
    return (how, table, places[0], column, cast_place(dice, columns, side, kind))


def cast_rule(dice, tables, name):
    side = dice.one_of(("ahead", "row", "row", "row", "row", "deed", "deed"))
    at = dice.below(len(tables))
    table, there = tables[at]
    columns = [column for column, _ in there]
    kind = dice.one_of(("put", "drop", "set", "set", "set"))
    column = dice.one_of([None, *columns]) if kind == "set" else None
    test, acts = None, ()
    if side == "ahead" or dice.below(3) == 0:
        sign = dice.one_of(("less", "like", "unlike"))
        one, other = (cast_place(dice, columns, side, kind) for _ in range(2))
        test = (one, sign, other)
    if side != "ahead":
        # Acts on tables further on seldom set one another off in a ring.
        on = tables[at + 1:] or tables
        many = 1 + dice.below(3)
        acts = tuple(cast_act(dice, on, columns, side, kind) for _ in range(many))
    return (name, side, table, kind, column, test, acts)


DOES = {"put": "put", "drop": "drop", "sweep": "drop", "set": "set", "shift": "set"}


def cast_deed_there(dice, plan, content):
    """A deed that rather finds a row than not, and that rather sets a rule off."""
    for _ in range(8):
        deed = cast_deed(dice, plan[0])
        rows = [rows for (table, _), rows in zip(plan[0], content) if table == deed[1]][0]
        if deed[0] in ("drop", "set") and rows and dice.below(8):
            deed = (*deed[:2], dice.one_of(rows)[0], *deed[3:])
        if any(rule[1] != "ahead" and rule[2:4] == (deed[1], DOES[deed[0]]) for rule in plan[2]):
            return deed
    return deed


def mended(plan, content):
    """The content without what is loose in it: cells emptied, or rows left out."""
    told = [list(rows) for rows in content]
    names = [table for table, _ in plan[0]]
    for _ in range(30):
        for _, table, column, other, _, _, _ in plan[1]:
            columns = plan[0][names.index(table)][1]
            at = [name for name, _ in columns].index(column)
            there = {row[0] for row in told[names.index(other)]} | {None}
            rows = told[names.index(table)]
            if at == 0:
                told[names.index(table)] = [row for row in rows if row[0] in there]
            else:
                told[names.index(table)] = [
                    row if row[at] in there else (*row[:at], None, *row[at + 1:]) for row in rows]
    return told


def cast_run(seed):
    """A plan with rules, a content in which nothing is loose, and a deed."""
    dice = Dice(seed)
    tables = cast_tables(dice)
    ties = cast_ties(dice, tables)[:dice.below(6)]
    rules = tuple(cast_rule(dice, tables, name) for name in "vurtwsqp"[:dice.below(8)])
    plan = (tables, ties, rules)
    content = mended(plan, cast_content(dice, tables))
    return plan, content, cast_deed_there(dice, plan, content)
