"""Ways to spoil a thing made of tuples, one part at a time."""

A_BILLION = 10 ** 9

# None of these is a NAME.
NO_NAMES = (
    None, True, False, 0, 1, -1, "", " ", "a ", " a", "a b", "A", "aB", "a1",
    "1", "-", "_", "a_b", "{", "`", "~", "abcdefghi", (), [], ("a",), ["a"],
    (("a",),), ("a", "b"),
)
# None of these is a worth.
NO_WORTHS = (
    True, False, "", "a", "0", "None", (), [], (0,), [0], (None,), [None],
    A_BILLION + 1, -A_BILLION - 1, 10 ** 30, -(10 ** 30),
)
# None of these is a tuple of anything that a plan has.
NO_TUPLES = (
    None, True, False, 0, 1, 7, "", "a", "ab", "abc", "abcdefg", [], [()],
    (None,), (True,), (0,), ("a",), (("a",),), ((),), ([],), (((),),),
)


def places(thing, ahead=()):
    """Every place in a thing of tuples and lists, () for the whole of it."""
    told = [ahead]
    if isinstance(thing, (tuple, list)):
        for at, part in enumerate(thing):
            told.extend(places(part, ahead + (at,)))
    return told


def part_at(thing, place):
    for at in place:
        thing = thing[at]
    return thing


def spoiled(thing, place, part):
    """The thing with that part in the place."""
    if not place:
        return part
    at = place[0]
    inner = spoiled(thing[at], place[1:], part)
    return remade(thing, list(thing[:at]) + [inner] + list(thing[at + 1:]))


def remade(thing, parts):
    return tuple(parts) if isinstance(thing, tuple) else list(parts)


def tuple_places(thing):
    """The places of the tuples in a thing."""
    return [place for place in places(thing) if isinstance(part_at(thing, place), tuple)]


def listed(thing):
    """The thing with lists for all its tuples."""
    if isinstance(thing, (tuple, list)):
        return [listed(part) for part in thing]
    return thing


def with_list_at(thing, place):
    """The thing with a list for the tuple in that place."""
    return spoiled(thing, place, list(part_at(thing, place)))


def with_part_more(thing, place, part):
    return spoiled(thing, place, part_at(thing, place) + (part,))


def with_part_fewer(thing, place):
    return spoiled(thing, place, part_at(thing, place)[:-1])
