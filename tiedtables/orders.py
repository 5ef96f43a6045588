"""Orders in which rules that wait are taken: whether they come to one end."""

from tiedtables.errors import TableError, TooMany
from tiedtables.plans import MOST_DEEDS, table_names
from tiedtables.ranks import act_kinds, sets_off
from tiedtables.running import begun, taken_on


def two_orders(plan, content, deed, *, most=5):
    """Two orders whose ends are unlike; None where all come to one end."""
    try:
        run = begun(plan, content, deed)
    except TableError:
        return None
    ends = _ends(plan, run, [], most)
    order, first = ends[0]
    for other, end in ends:
        if end != first:
            return (order, other)
    return None


def meets(plan):
    """The pairs (rule, other), the first no later, that reach a table in common."""
    reached = _reached(plan)
    told = []
    for at, rule in enumerate(plan[2]):
        for other in plan[2][at:]:
            if any([table in reached[other[0]] for table in reached[rule[0]]]):
                told.append((rule[0], other[0]))
    return told


def _ends(plan, run, order, most):
    """All whole orders that go on so, each with the content at its end, None if refused."""
    if run is None:
        return [(order, None)]
    content, _, waiting, _ = run
    if not waiting:
        return [(order, content)]
    if len(order) >= most:
        raise TooMany(most)
    told = []
    for at in range(len(waiting)):
        told.extend(_ends(plan, _taken_or_none(plan, run, at), order + [at], most))
    return told


def _taken_or_none(plan, run, at):
    try:
        return taken_on(plan, run, at, MOST_DEEDS)
    except TableError:
        return None


def _reached(plan):
    """By each rule's name a dict of True of the tables that it reaches."""
    reached = {rule[0]: _tables_by_acts(plan, rule) for rule in plan[2]}
    pairs = sets_off(plan)
    # Each round takes in what rules reach one setting-off further.
    for _ in plan[2]:
        for rule, other in pairs:
            for table in list(reached[other]):
                reached[rule][table] = True
    return reached


def _tables_by_acts(plan, rule):
    """The tables of what the rule's acts may bring, and those tied with these."""
    changed = {table: True for table, _, _ in act_kinds(plan, rule)}
    found = {table: True for table in table_names(plan[0]) if table in changed}
    for _, table, _, other, _, _, _ in plan[1]:
        if table in changed:
            found[other] = True
        if other in changed:
            found[table] = True
    return found
