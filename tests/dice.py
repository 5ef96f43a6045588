"""Plans, contents and deeds made from a number, the same ones each time."""

WAYS = ("bar", "carry", "carry", "carry", "empty", "fallback", "look")
KEY_WAYS = ("bar", "carry", "carry", "carry", "look")
COLUMNS = "kxyz"


class Dice:
    """Numbers that look cast, told by a seed alone."""

    def __init__(self, seed):
        self.now = seed * 7919 + 1

    def below(self, many):
        self.now = (self.now * 6364136223846793005 + 1442695040888963407) % 2 ** 64
        return (self.now >> 33) % many

    def one_of(self, parts):
        return parts[self.below(len(parts))]


def cast_tables(dice):
    told = []
    for name in "dacb"[:1 + dice.below(4)]:
        fallbacks = [None] + [dice.one_of((None, 0, 1, 2)) for _ in range(dice.below(4))]
        told.append((name, tuple(zip(COLUMNS, fallbacks))))
    return tuple(told)


def cast_ties(dice, tables):
    told = []
    for name in "tsrqpon"[:dice.below(8)]:
        table, columns = dice.one_of(tables)
        column = dice.one_of(columns)[0]
        ways = KEY_WAYS if column == "k" else WAYS
        other = dice.one_of(tables)[0]
        when = dice.one_of(("once", "end"))
        told.append((name, table, column, other, dice.one_of(ways), dice.one_of(ways), when))
    return tuple(told)


def cast_content(dice, tables):
    told = []
    for _, columns in tables:
        keys = [key for key in range(6) if dice.below(2)]
        rows = [(key, *[dice.one_of((None, 0, 1, 2, 3, 4, 5)) for _ in columns[1:]]) for key in keys]
        told.append(rows)
    return told


def cast_deed(dice, tables):
    table, columns = dice.one_of(tables)
    kind = dice.one_of(("put", "drop", "set", "set", "sweep", "shift", "shift"))
    key, column = dice.below(6), dice.one_of(columns)[0]
    worth = dice.one_of((None, 0, 1, 2, 7))
    if kind == "put":
        return (kind, table, (key, *[worth for _ in columns[1:]]))
    if kind == "drop":
        return (kind, table, key)
    if kind == "set":
        return (kind, table, key, column, dice.below(9) if column == "k" else worth)
    if kind == "sweep":
        return (kind, table, column, worth)
    return (kind, table, column, dice.one_of((-1, 0, 1, 10)))


def cast(seed):
    """A plan, a content and a deed."""
    dice = Dice(seed)
    tables = cast_tables(dice)
    plan = (tables, cast_ties(dice, tables), ())
    return plan, cast_content(dice, tables), cast_deed(dice, tables)
