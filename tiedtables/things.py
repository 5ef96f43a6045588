"""What the is_.. functions ask of the parts of a thing."""

MOST_LETTERS = 8
MOST_NUMBER = 1_000_000_000


def is_number(thing):
    """Whether thing is a whole number; True and False are none."""
    return isinstance(thing, int) and not isinstance(thing, bool)


def is_worth(thing):
    """Whether thing may be handed in as a worth."""
    if thing is None:
        return True
    return is_number(thing) and -MOST_NUMBER <= thing <= MOST_NUMBER


def is_name(thing):
    """Whether thing is a NAME: one to eight letters a to z."""
    if not isinstance(thing, str) or not 1 <= len(thing) <= MOST_LETTERS:
        return False
    return all(["a" <= letter <= "z" for letter in thing])


def is_tuple(thing, least, most):
    """Whether thing is a tuple of least to most parts; a list is none."""
    return isinstance(thing, tuple) and least <= len(thing) <= most


def are_unlike(names):
    """Whether no name is told twice."""
    return len(set(names)) == len(names)
