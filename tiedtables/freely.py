"""What a deed brings, done one step at a time in any order."""

from tiedtables.carrying import is_of_going, own_steps, risen_steps, rows_going, steps_behind
from tiedtables.contents import changed
from tiedtables.deeds import own_part
from tiedtables.leaning import leaners_of
from tiedtables.things import is_same


def steps_next(plan, content, deed, steps):
    """The rising list of all steps that may be done next, behind these."""
    done = {tuple(step): True for step in steps}
    going = rows_going(list(done))
    leaners = leaners_of(plan, content)
    found = own_steps(plan[0], content, deed)
    # A row that goes by then is turned no more, and has no cells.
    for step in done:
        if not is_of_going(step, going):
            behind = [then for _, then in steps_behind(plan, leaners, step)]
            found.extend([then for then in behind if not is_of_going(then, going)])
    left = {step: True for step in found if step not in done}
    return risen_steps(plan[0], list(left))


def ended(plan, content, deed, steps):
    """The content to which such a whole order comes, with the row that the deed puts in."""
    gone = [step[1:] for step in steps if step[0] == "gone"]
    cells = [step[1:] for step in steps if step[0] == "cell"]
    _, _, rows = own_part(plan[0], content, deed)
    return changed(plan[0], content, gone, cells, rows)


def shows_order(plan, content, deed, thing):
    """Whether thing is a whole order: each step next behind those ahead, none left."""
    if not isinstance(thing, list):
        return False
    for at, step in enumerate(thing):
        told = steps_next(plan, content, deed, thing[:at])
        if not any([is_same(step, then) for then in told]):
            return False
    return not steps_next(plan, content, deed, thing)
