"""What rules ask of a change, and what deeds their acts make of it.

A rule that waits is a tuple (rule, change, many, number): the rule's own tuple,
the change that it acts behind, how many such changes the deed made, and the
number of that change's first entry in the journal.
"""

from tiedtables.changes import is_watched, key_of
from tiedtables.contents import row_of
from tiedtables.errors import Stopped
from tiedtables.plans import column_place, key_column
from tiedtables.things import is_number


def ask_ahead(plan, changes):
    """Refused by the first change that a rule of side "ahead" bars."""
    for change in changes:
        for rule in plan[2]:
            if rule[1] == "ahead" and is_watched(plan[0], rule, change):
                # None: how many changes there are is asked behind a deed alone.
                if _is_held(plan[0], rule, change, None):
                    raise Stopped(rule[0], change[1], key_of(change))


def waits_behind(plan, changes, numbers):
    """The rules that wait behind a deed of such changes, numbers by each (table, key)."""
    told = []
    for rule in plan[2]:
        made = [change for change in changes if is_watched(plan[0], rule, change)]
        for change in _changes_asked(rule, made):
            if _is_held(plan[0], rule, change, len(made)):
                number = numbers[(change[1], key_of(change))]
                told.append((rule, change, len(made), number))
    return told


def act_deed(tables, content, waiting, act):
    """The deed that the act makes; None where the act is left out."""
    _, change, many, _ = waiting
    kind, table = act[:2]
    if kind == "put":
        row = tuple([_worth_at(tables, change, many, place) for place in act[2]])
        return None if row[0] is None else ("put", table, row)
    key = _worth_at(tables, change, many, act[2])
    row = row_of(tables, content, table, key)
    if row is None:
        return None
    if kind == "drop":
        return ("drop", table, key)
    column, worth = act[3], _worth_at(tables, change, many, act[4])
    if kind == "set":
        return ("set", table, key, column, worth)
    now = row[column_place(tables, table, column)]
    if now is None or worth is None:
        return None
    return ("set", table, key, column, now + worth)


def lacks_key(tables, deed):
    """Whether the deed sets a key to nothing."""
    return deed[0] == "set" and deed[3] == key_column(tables, deed[1]) and deed[4] is None


def _changes_asked(rule, made):
    """Those of the changes behind which the rule may act."""
    if rule[1] == "row":
        return made
    return made[:1] if rule[1] == "deed" else []


def _is_held(tables, rule, change, many):
    """Whether the rule's test holds; where it has none, it does."""
    test = rule[5]
    if test is None:
        return True
    one = _worth_at(tables, change, many, test[0])
    other = _worth_at(tables, change, many, test[2])
    if test[1] == "less":
        return one is not None and other is not None and one < other
    return (one == other) == (test[1] == "like")


def _worth_at(tables, change, many, place):
    if place is None or is_number(place):
        return place
    if place[0] == "many":
        return many
    row = change[2] if place[0] == "old" else change[3]
    return row[column_place(tables, change[1], place[1])]
