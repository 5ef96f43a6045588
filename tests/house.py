"""Tables to lay ties over, and what makes plans of them."""

# The tables do not stand by their names, nor do their columns.
TABLES = (
    ("rooms", (("id", None), ("size", 4))),
    ("beds", (("id", None), ("room", -1), ("next", 7), ("back", None))),
    ("keys", (("room", None), ("held", 2))),
    ("age", (("id", None), ("bed", 0))),
)


def plan_of(*ties):
    return (TABLES, ties, ())


def tie(name, table, column, other, gone="look", turned="look", when="end"):
    return (name, table, column, other, gone, turned, when)


def rule(name, side, table, kind, column=None, test=None, acts=()):
    return (name, side, table, kind, column, test, acts)


def plan_with(ties, rules):
    return (TABLES, tuple(ties), tuple(rules))
