"""Ranks of rules, by which each sets off lesser ones alone, or a ring of rules.

A kind of change is a tuple (table, kind, column), column None of put and drop.
"""

from tiedtables.plans import column_place, key_column, table_place
from tiedtables.rules import KINDS
from tiedtables.things import are_unlike, is_number
from tiedtables.ties import ties_on


def may_bring(plan, table, kind, column=None):
    """All kinds of change that such a change can bring by ties, itself among them."""
    first = (table, kind, column)
    found = {first: True}
    left = [first]
    while left:
        change = left.pop()
        for then in _kinds_behind(plan, change):
            if then not in found:
                found[then] = True
                left.append(then)
    return sorted(list(found), key=lambda one: _kind_place(plan[0], one))


def sets_off(plan):
    """The pairs (rule, other): an act of the rule may bring what the other watches."""
    told = []
    for rule in plan[2]:
        kinds = act_kinds(plan, rule)
        watching = [part for part in plan[2] if part[1] != "ahead" and _is_watching(part, kinds)]
        told.extend([(rule[0], other[0]) for other in watching])
    return told


def ranks(plan):
    """A pair (list, None), the least ranks of the rules in order, or (None, ring)."""
    names = [rule[0] for rule in plan[2]]
    behind = _set_off_by(plan)
    ranked = {}
    left = names
    while left:
        ready = [rule for rule in left if all([other in ranked for other in behind[rule]])]
        if not ready:
            return (None, _ring_in(left, behind))
        for rule in ready:
            ranked[rule] = max([ranked[other] + 1 for other in behind[rule]], default=0)
        left = [rule for rule in left if rule not in ranked]
    return ([ranked[rule] for rule in names], None)


def is_ranks(plan, thing):
    """Whether thing is a list of ranks, the least ones or not."""
    if not isinstance(thing, list) or len(thing) != len(plan[2]):
        return False
    if not all([is_number(rank) and rank >= 0 for rank in thing]):
        return False
    ranked = {rule[0]: rank for rule, rank in zip(plan[2], thing)}
    return all([ranked[rule] > ranked[other] for rule, other in sets_off(plan)])


def is_ring(plan, thing):
    """Whether thing is a list of rules that set one another off, the last one the first."""
    if not isinstance(thing, list) or not thing:
        return False
    if not all([isinstance(rule, str) for rule in thing]) or not are_unlike(thing):
        return False
    pairs = sets_off(plan)
    behind = thing[1:] + thing[:1]
    return all([pair in pairs for pair in zip(thing, behind)])


def act_kinds(plan, rule):
    """All kinds of change that the rule's acts may bring, each once."""
    found = {}
    for act in rule[6]:
        kind, table = act[:2]
        # What is added to is set.
        changed = "set" if kind == "add" else kind
        column = act[3] if changed == "set" else None
        for then in may_bring(plan, table, changed, column):
            found[then] = True
    return list(found)


def _kinds_behind(plan, change):
    """The kinds of change that come straight of one, by the ties."""
    table, kind, column = change
    told = []
    for _, low, place, _, gone, turned, _ in ties_on(plan, table):
        if kind == "drop" and gone == "carry":
            told.append((low, "drop", None))
        elif kind == "drop" and gone in ("empty", "fallback"):
            told.append((low, "set", place))
        elif kind == "set" and column == key_column(plan[0], table):
            if turned in ("carry", "empty", "fallback"):
                told.append((low, "set", place))
    return told


def _kind_place(tables, change):
    table, kind, column = change
    place = 0 if column is None else column_place(tables, table, column)
    return (table_place(tables, table), KINDS.index(kind), place)


def _is_watching(rule, kinds):
    _, _, table, kind, column, _, _ = rule
    for changed, how, where in kinds:
        if (changed, how) == (table, kind) and column in (None, where):
            return True
    return False


def _set_off_by(plan):
    """By each rule's name the names of those that it sets off."""
    told = {rule[0]: [] for rule in plan[2]}
    for rule, other in sets_off(plan):
        told[rule].append(other)
    return told


def _ring_in(left, behind):
    """A ring among rules each of which sets off one that is left."""
    way = []
    rule = left[0]
    while rule not in way:
        way.append(rule)
        rule = [other for other in behind[rule] if other in left][0]
    return way[way.index(rule):]
