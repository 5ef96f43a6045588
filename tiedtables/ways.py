"""Ways: by which ties a row that goes, or a cell that is changed, came of a deed."""

from tiedtables.carrying import brought, own_steps, parts, spread, steps_behind
from tiedtables.errors import TableError
from tiedtables.leaning import leaners_of
from tiedtables.things import are_unlike, is_number, is_same, is_tuple


def way_to(plan, content, deed, table, key, column=None):
    """A way of fewest pairs to that row, or to that cell; None where there is none."""
    came = spread(plan, content, deed)
    # The steps nearest to the deed stand ahead: the first one that fits will do.
    for step in came:
        if _is_at(step, table, key, column):
            return _way_back(came, step)
    return None


def parting(plan, content, deed):
    """The first cell that is parted, with two ways that bring it to unlike worths."""
    parted = parts(plan, content, deed)
    if not parted:
        return None
    table, key, column, worths = parted[0]
    came = spread(plan, content, deed)
    one = _way_back(came, ("cell", table, key, column, worths[0]))
    other = _way_back(came, ("cell", table, key, column, worths[1]))
    return (table, key, column, one, other)


def shows_way(plan, content, deed, table, key, column, worth, thing):
    """Whether thing is a way by which that cell comes to that worth, or that row goes."""
    came = spread(plan, content, deed)
    if not _is_way(thing):
        return False
    leaners = leaners_of(plan, content)
    reached = own_steps(plan[0], content, deed)
    for pair in thing:
        behind = [part for step in reached for part in steps_behind(plan, leaners, step)]
        # What did not come at all is a cell of a row that goes.
        reached = [step for by, step in behind if by == pair and step in came]
    return any([_is_aim(step, table, key, column, worth) for step in reached])


def shows_brought(plan, content, deed, thing):
    """Whether thing is the pair that brought tells."""
    try:
        told = brought(plan, content, deed)
    except TableError:
        return False
    return is_same(thing, told)


def _is_at(step, table, key, column):
    """Whether the step is that row's going or, where a column is told, that cell's."""
    if column is None:
        return step == ("gone", table, key)
    return step[:4] == ("cell", table, key, column)


def _is_aim(step, table, key, column, worth):
    if not _is_at(step, table, key, column):
        return False
    return column is None or step[4] == worth


def _way_back(came, step):
    way = []
    while came[step] is not None:
        step, pair = came[step]
        way.append(pair)
    return way[::-1]


def _is_way(thing):
    """Whether thing is a list of pairs of a text and a number, none twice."""
    if not isinstance(thing, list) or not all([_is_pair(part) for part in thing]):
        return False
    return are_unlike(thing)


def _is_pair(thing):
    return is_tuple(thing, 2, 2) and isinstance(thing[0], str) and is_number(thing[1])
