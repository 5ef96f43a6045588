"""The lines of a desk's text, behind that of its store: what each asks for.

What is asked for is a tuple: ("do", deed), ("begin",), ("point", name),
("back", name), ("leave",), ("end",), ("row", table, key), ("leaning", tie, key),
("loose",), ("open",), ("journal", number), ("why", number) or
("way", deed, table, key, column).
"""

from tiedtables.deeds import LENGTHS, is_deed
from tiedtables.plans import column_names, table_names
from tiedtables.things import is_bounded, is_name
from tiedtables.words import worth_of

# What is asked for by one word alone, with the parts that are left out there.
ALONE = {
    "begin": ("begin",), "point": ("point", ""), "back": ("back", ""), "leave": ("leave",),
    "end": ("end",), "loose": ("loose",), "open": ("open",),
}
# The places of the worths among a deed's words; a put's are all behind the table.
WORTHS = {"drop": (2,), "set": (2, 4), "sweep": (3,), "shift": (3,)}


def asked_by(plan, line):
    """What the line asks for; None where it is not so written or cannot stand there."""
    words = line.split(" ")
    kind, many = words[0], len(words)
    if many == 1:
        return ALONE.get(kind)
    if kind in LENGTHS:
        deed = _deed_of(plan[0], words)
        return None if deed is None else ("do", deed)
    if kind in ("point", "back") and many == 2 and is_name(words[1]):
        return (kind, words[1])
    if kind in ("journal", "why") and many == 2 and _is_count(worth_of(words[1])):
        return (kind, worth_of(words[1]))
    if kind == "row" and many == 3:
        return _key_asked(kind, table_names(plan[0]), words[1:])
    if kind == "leaning" and many == 3:
        return _key_asked(kind, [tie[0] for tie in plan[1]], words[1:])
    return _way_asked(plan[0], words[1:]) if kind == "way" else None


def _deed_of(tables, words):
    """The deed that is so written; None where none is."""
    if words[0] == "put":
        deed = (*words[:2], tuple([worth_of(word) for word in words[2:]]))
    else:
        places = WORTHS[words[0]]
        deed = tuple([worth_of(word) if at in places else word for at, word in enumerate(words)])
    return deed if is_deed(tables, deed) else None


def _key_asked(kind, names, words):
    key = worth_of(words[1])
    return (kind, words[0], key) if words[0] in names and is_bounded(key) else None


def _way_asked(tables, words):
    # By its form alone a deed is told from what stands behind it: to may be a table's name.
    many = _deed_length(tables, words)
    behind = words[many:]
    if many == 0 or len(behind) not in (3, 4) or behind[0] != "to":
        return None
    deed = _deed_of(tables, words[:many])
    aim = _key_asked("way", table_names(tables), behind[1:3])
    if deed is None or aim is None:
        return None
    _, table, key = aim
    column = behind[3] if len(behind) == 4 else None
    if column is not None and column not in column_names(tables, table):
        return None
    return ("way", deed, table, key, column)


def _deed_length(tables, words):
    """Of how many words the deed is with which these begin, 0 where they begin with none."""
    if words[0] != "put":
        return LENGTHS.get(words[0], 0)
    if len(words) == 1 or words[1] not in table_names(tables):
        return 0
    return 2 + len(column_names(tables, words[1]))


def _is_count(thing):
    return is_bounded(thing) and thing >= 0
