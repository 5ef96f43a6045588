"""Things of numbers, texts, lists and tuples: what is asked of their parts, and copies."""

MOST_LETTERS = 8
MOST_NUMBER = 1_000_000_000


def is_number(thing):
    """Whether thing is a whole number; True and False are none."""
    return isinstance(thing, int) and not isinstance(thing, bool)


def is_bounded(thing):
    """Whether thing is a number that may be handed in."""
    return is_number(thing) and -MOST_NUMBER <= thing <= MOST_NUMBER


def is_worth(thing):
    """Whether thing may be handed in as a worth."""
    return thing is None or is_bounded(thing)


def is_name(thing):
    """Whether thing is a NAME: one to eight letters a to z."""
    if not isinstance(thing, str) or not 1 <= len(thing) <= MOST_LETTERS:
        return False
    return all(["a" <= letter <= "z" for letter in thing])


def is_tuple(thing, least, most):
    """Whether thing is a tuple of least to most parts; a list is none."""
    return isinstance(thing, tuple) and least <= len(thing) <= most


def are_unlike(names):
    """Whether no name is told twice."""
    return len(set(names)) == len(names)


def tupled(thing):
    """A copy of the thing, with tuples for all its lists."""
    if isinstance(thing, (list, tuple)):
        return tuple([tupled(part) for part in thing])
    return thing


def is_same(thing, told):
    """Whether thing is what was told: a list is no tuple, and True is not 1."""
    if isinstance(told, list):
        return isinstance(thing, list) and _are_same(thing, told)
    if isinstance(told, tuple):
        return isinstance(thing, tuple) and _are_same(thing, told)
    return isinstance(thing, bool) == isinstance(told, bool) and thing == told


def _are_same(parts, told):
    if len(parts) != len(told):
        return False
    return all([is_same(part, other) for part, other in zip(parts, told)])
