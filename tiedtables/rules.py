"""Rules: which changes they watch, when they act, and what they do."""

from tiedtables.plans import column_names, table_names
from tiedtables.things import are_unlike, is_name, is_tuple, is_worth

MOST_RULES = 8
RULE_PARTS = 7
MOST_ACTS = 3
SIDES = ("ahead", "row", "deed")
KINDS = ("put", "drop", "set")
SIGNS = ("less", "like", "unlike")


def is_rules(tables, thing):
    """Whether thing is rules of these tables."""
    if not is_tuple(thing, 0, MOST_RULES):
        return False
    if not all([_is_rule(tables, part) for part in thing]):
        return False
    return are_unlike([part[0] for part in thing])


def _is_rule(tables, thing):
    if not is_tuple(thing, RULE_PARTS, RULE_PARTS):
        return False
    rule, side, table, kind, column, test, acts = thing
    if not is_name(rule) or side not in SIDES:
        return False
    if table not in table_names(tables) or kind not in KINDS:
        return False
    columns = column_names(tables, table)
    if column is not None and (kind != "set" or column not in columns):
        return False
    read = _places_read(side, kind, columns)
    return _is_test(read, side, test) and _is_acts(tables, read, side, acts)


def _places_read(side, kind, columns):
    """The places, besides worths, that a rule's test and acts may name."""
    if side == "deed":
        # It acts once for many changes, so none of them has its worths read.
        return [("many",)]
    old = [("old", column) for column in columns if kind != "put"]
    return old + [("new", column) for column in columns if kind != "drop"]


def _is_place(read, thing):
    return is_worth(thing) or thing in read


def _is_test(read, side, thing):
    if thing is None:
        return side != "ahead"
    if not is_tuple(thing, 3, 3):
        return False
    one, sign, other = thing
    return sign in SIGNS and _is_place(read, one) and _is_place(read, other)


def _is_acts(tables, read, side, thing):
    if side == "ahead":
        return is_tuple(thing, 0, 0)
    if not is_tuple(thing, 1, MOST_ACTS):
        return False
    return all([_is_act(tables, read, part) for part in thing])


def _is_act(tables, read, thing):
    if not is_tuple(thing, 3, 5) or thing[1] not in table_names(tables):
        return False
    kind, many = thing[0], len(thing)
    columns = column_names(tables, thing[1])
    if kind == "put" and many == 3:
        return _is_places(read, len(columns), thing[2])
    if kind == "drop" and many == 3:
        return _is_place(read, thing[2])
    if kind in ("set", "add") and many == 5:
        _, _, key, column, worth = thing
        return column in columns and _is_place(read, key) and _is_place(read, worth)
    return False


def _is_places(read, many, thing):
    if not is_tuple(thing, many, many):
        return False
    return all([_is_place(read, part) for part in thing])
