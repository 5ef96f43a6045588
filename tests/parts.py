"""Ways to spoil a thing, one part at a time, and to ask questions of all shapes."""
import unittest

A_BILLION = 10 ** 9

# None of these is a NAME.
NO_NAMES = (
    None, True, False, 0, 1, -1, "", " ", "a ", " a", "a b", "A", "aB", "a1",
    "1", "-", "_", "a_b", "{", "`", "~", "abcdefghi", (), [], ("a",), ["a"],
    (("a",),), ("a", "b"),
)
# None of these is a worth.
NO_WORTHS = (
    True, False, "", "a", "0", "None", (), [], (0,), [0], (None,), [None],
    A_BILLION + 1, -A_BILLION - 1, 10 ** 30, -(10 ** 30),
)
# None of these is a tuple of anything that a plan has.
NO_TUPLES = (
    None, True, False, 0, 1, 7, "", "a", "ab", "abc", "abcdefg", [], [()],
    (None,), (True,), (0,), ("a",), (("a",),), ((),), ([],), (((),),),
)

# Of all that a thing may be made of, a little.
ODD_PARTS = NO_TUPLES + (
    True, False, -1, 2, 3, 4, 5, 12, 10 ** 12, " ", "~", "deed", "age", "beds", "rooms",
    ("deed",), ("tie", "in", 0), [[], [], [], []], [(), ()], [[[[[[[0]]]]]]], [0], [None],
)


def places(thing, ahead=()):
    """Every place in a thing of tuples and lists, () for the whole of it."""
    told = [ahead]
    if isinstance(thing, (tuple, list)):
        for at, part in enumerate(thing):
            told.extend(places(part, ahead + (at,)))
    return told


def part_at(thing, place):
    for at in place:
        thing = thing[at]
    return thing


def spoiled(thing, place, part):
    """The thing with that part in the place."""
    if not place:
        return part
    at = place[0]
    inner = spoiled(thing[at], place[1:], part)
    return remade(thing, list(thing[:at]) + [inner] + list(thing[at + 1:]))


def remade(thing, parts):
    return tuple(parts) if isinstance(thing, tuple) else list(parts)


def tuple_places(thing):
    """The places of the tuples in a thing."""
    return [place for place in places(thing) if isinstance(part_at(thing, place), tuple)]


def listed(thing):
    """The thing with lists for all its tuples."""
    if isinstance(thing, (tuple, list)):
        return [listed(part) for part in thing]
    return thing


def with_list_at(thing, place):
    """The thing with a list for the tuple in that place."""
    return spoiled(thing, place, list(part_at(thing, place)))


def with_part_more(thing, place, part):
    return spoiled(thing, place, part_at(thing, place) + (part,))


def with_part_fewer(thing, place):
    return spoiled(thing, place, part_at(thing, place)[:-1])


def tupled(thing):
    """The thing with tuples for all its lists."""
    if isinstance(thing, (tuple, list)):
        return tuple(tupled(part) for part in thing)
    return thing


def as_it_is(thing):
    return thing


# What a list may stand for, and what a tuple may, handed in each way.
SHAPES = (as_it_is, listed, tupled)


def lists_in(thing):
    """Every list in a thing."""
    told = [thing] if isinstance(thing, list) else []
    if isinstance(thing, (tuple, list)):
        for part in thing:
            told.extend(lists_in(part))
    return told


class Asking(unittest.TestCase):
    """Asks so that all that [2] says of questions is looked at on the way."""

    def assert_tells(self, answer, ask, *things, **named):
        """The answer, whatever stands for lists and tuples, each time anew."""
        for shape in SHAPES:
            made, more = shape(list(things)), {name: shape(named[name]) for name in named}
            before = repr((made, more))
            with self.subTest(ask=ask.__name__, made=made, more=more):
                told, again = ask(*made, **more), ask(*made, **more)
                # By repr: 1 is not True there, nor a list a tuple.
                self.assertEqual(repr(told), repr(answer))
                self.assertEqual(repr(again), repr(answer))
                told_lists = lists_in(told) + lists_in(again)
                unlike = {id(part) for part in told_lists + lists_in((made, more))}
                apart = len(told_lists) + len({id(part) for part in lists_in((made, more))})
                self.assertEqual(len(unlike), apart)
                for part in lists_in(told):
                    part.append("more")
                self.assertEqual(repr(ask(*made, **more)), repr(answer))
                self.assertEqual(repr((made, more)), before)

    def assert_answers(self, answer, ask, *things):
        """True or False itself, of the last one as it is, the others in any shape."""
        for shape in SHAPES:
            made = shape(list(things[:-1]))
            before = repr((made, things[-1]))
            with self.subTest(ask=ask.__name__, made=made, thing=things[-1]):
                self.assertIs(ask(*made, things[-1]), answer)
                self.assertEqual(repr((made, things[-1])), before)

    def assert_only(self, right, ask, *things):
        """True of the right thing alone, and of none that is otherwise at one place."""
        self.assert_answers(True, ask, *things, right)
        for place in places(right):
            part = part_at(right, place)
            others = list(ODD_PARTS) + [(part,), [part]]
            if isinstance(part, (list, tuple)):
                others += [remade(part, [*part, more]) for more in (None, 0, 1, "a", (), [])]
                others += [remade(part, part[:at] + part[at + 1:]) for at in range(len(part))]
                others.append(tuple(part) if isinstance(part, list) else list(part))
                others.append(remade(part, part[::-1]))
            for other in others:
                thing = spoiled(right, place, other)
                answer = repr(thing) == repr(right)
                with self.subTest(ask=ask.__name__, things=things, thing=thing):
                    self.assertIs(ask(*things, thing), answer)

    def assert_refused(self, error, fields, ask, *things, **named):
        """Refused by this very class, with these fields."""
        for shape in SHAPES:
            made = shape(list(things))
            before = repr(made)
            with self.subTest(ask=ask.__name__, made=made, named=named):
                with self.assertRaises(error) as caught:
                    ask(*made, **named)
                self.assertIs(type(caught.exception), error)
                told = {name: getattr(caught.exception, name) for name in fields}
                self.assertEqual(repr(told), repr(fields))
                self.assertEqual(repr(made), before)
