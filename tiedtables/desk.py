"""A desk: a store from a text, and the answers to the lines behind it."""

from tiedtables.contenttexts import content_with, no_rows
from tiedtables.desklines import asked_by
from tiedtables.errors import BadLine, NoSuch, TableError
from tiedtables.leaning import leaning, loose
from tiedtables.plantexts import NO_PLAN, is_lacking, plan_with
from tiedtables.store import Store
from tiedtables.ways import way_to
from tiedtables.words import row_words, worth_text

STORE = "store"
NOTHING = "-"


def run(text):
    """The answers, one for each line behind the first one that is store alone."""
    lines = text.split("\n")
    plan, content, first = _opened(lines)
    asks = _asks_from(plan, lines, first)
    store = Store(plan, content=content)
    return [_answer(plan, store, ask) for ask in asks]


def _opened(lines):
    """The plan, the content, and the number of the line behind store's."""
    plan, content = NO_PLAN, ()
    for at, line in enumerate(lines):
        if line == STORE and not is_lacking(plan):
            return (plan, content, at + 1)
        told = _opened_on(plan, content, line)
        if told is None:
            raise BadLine(at)
        plan, content = told
    raise BadLine(len(lines))


def _opened_on(plan, content, line):
    """The plan and the content with one more line; None where it cannot stand there.

    The content is () as long as lines of the plan may follow.
    """
    if line.startswith("row "):
        if is_lacking(plan):
            return None
        rows = content_with(plan[0], content or no_rows(plan[0]), line)
        return None if rows is None else (plan, rows)
    more = None if content else plan_with(plan, line)
    return None if more is None else (more, ())


def _asks_from(plan, lines, first):
    told = []
    for at, line in enumerate(lines[first:], first):
        ask = asked_by(plan, line)
        if ask is None:
            raise BadLine(at)
        told.append(ask)
    return told


def _answer(plan, store, ask):
    try:
        return _done(store, ask) or _told(plan, store, ask)
    except (TableError, NoSuch) as error:
        return "refused " + type(error).__name__


def _done(store, ask):
    """The answer to what changes the store or its dealings; "" to what only asks."""
    kind = ask[0]
    if kind == "do":
        return str(len(store.do(ask[1])))
    if kind == "end":
        return str(store.end())
    if kind == "begin":
        store.begin()
    elif kind == "point":
        store.point(name=ask[1])
    elif kind == "back":
        store.back(to=ask[1])
    elif kind == "leave":
        store.leave()
    else:
        return ""
    return "ok"


def _told(plan, store, ask):
    """The answer to what only asks."""
    kind = ask[0]
    if kind == "row":
        row = store.row(ask[1], ask[2])
        return NOTHING if row is None else " ".join(row_words(row))
    if kind == "leaning":
        keys = leaning(plan, store.content(), ask[1], key=ask[2])
        return _several([str(key) for key in keys])
    if kind == "loose":
        pairs = loose(plan, store.content())
        return _several([tie + " " + str(key) for tie, key in pairs])
    if kind == "open":
        return "yes" if store.is_open() else "no"
    if kind == "journal":
        return _several([_entry_text(entry) for entry in store.journal(first=ask[1])])
    if kind == "why":
        return _several([str(number) for number in store.why(ask[1])])
    _, deed, table, key, column = ask
    way = way_to(plan, store.content(), deed, table, key, column)
    return NOTHING if way is None else str(len(way))


def _several(texts):
    return "; ".join(texts) if texts else NOTHING


def _entry_text(entry):
    deed, table, key, column, old, new, cause = entry
    words = [str(deed), table, str(key), column or NOTHING, _part_text(old), _part_text(new)]
    return " ".join(words + [str(part) for part in cause])


def _part_text(part):
    """The word for a worth, or for a whole row."""
    return ",".join(row_words(part)) if isinstance(part, tuple) else worth_text(part)
