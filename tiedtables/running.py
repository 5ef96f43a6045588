"""Deeds, and what the rules make of them.

A run is a tuple (content, journal, waiting, done): what stands, the entries up
to there, the rules that wait (as in acting.py), and how many deeds were done.
"""

from tiedtables.acting import act_deed, ask_ahead, lacks_key, waits_behind
from tiedtables.carrying import brought_by, settled, spread
from tiedtables.changes import changes_of
from tiedtables.deeds import own_part
from tiedtables.errors import NoKey, TooMany
from tiedtables.journals import entries_of, row_numbers
from tiedtables.plans import MOST_DEEDS


def ran(plan, content, deed, *, order=(), most=MOST_DEEDS):
    """The content behind the deed and all that rules make of it, and the journal."""
    run = begun(plan, content, deed)
    takings = 0
    while run[2]:
        number = order[takings] if takings < len(order) else 0
        run = taken_on(plan, run, number % len(run[2]), most)
        takings += 1
    return (run[0], run[1])


def begun(plan, content, deed):
    """The run behind the deed itself, with the rules that wait then."""
    return _done(plan, (content, [], [], 0), deed, ("deed",))


def taken_on(plan, run, at, most):
    """The run behind the acts of the one that waits at that place."""
    content, journal, waiting, done = run
    one = waiting[at]
    run = (content, journal, waiting[:at] + waiting[at + 1:], done)
    rule, number = one[0], one[3]
    for act in rule[6]:
        deed = act_deed(plan[0], run[0], one, act)
        if deed is not None:
            if run[3] >= most:
                raise TooMany(most)
            if lacks_key(plan[0], deed):
                raise NoKey(rule[0])
            run = _done(plan, run, deed, ("rule", rule[0], number))
    return run


def _done(plan, run, deed, cause):
    """The run behind one more deed, which came of that cause."""
    content, journal, waiting, done = run
    came = spread(plan, content, deed)
    gone, cells = brought_by(plan, content, came)
    _, _, rows = own_part(plan[0], content, deed)
    changes = changes_of(plan[0], content, gone, cells, rows)
    ask_ahead(plan, changes)
    behind = settled(plan, content, gone, cells, rows)
    part, first = (gone, cells, rows), len(journal)
    entries = [(done, *entry) for entry in entries_of(plan[0], content, part, came, first, cause)]
    waits = waits_behind(plan, changes, row_numbers(entries, first))
    return (behind, journal + entries, waiting + waits, done + 1)
