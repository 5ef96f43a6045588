from tests import naive_run
from tests.dice import Dice, cast_run
from tests.house import plan_of, plan_with, rule, tie
from tests.parts import Asking, listed
from tiedtables import errors
from tiedtables.carrying import carried
from tiedtables.errors import (
    Barred, Loose, NoKey, NoRow, Parted, Stopped, TableError, Taken, TooMany)
from tiedtables.plans import MOST_DEEDS
from tiedtables.running import ran

BARE = [[], [], [], []]
ROOMS = [[(1, 4), (2, 6)], [], [], []]
DEED = ("deed",)


def log(*worths):
    """An act that puts a row into keys."""
    return ("put", "keys", worths)


class RunAsking(Asking):
    def assert_ran(self, content, journal, rules, ahead, deed, ties=(), **named):
        self.assert_tells((content, journal), ran, plan_with(ties, rules), ahead, deed, **named)

    def assert_run_refused(self, error, fields, rules, ahead, deed, ties=(), **named):
        self.assert_refused(error, fields, ran, plan_with(ties, rules), ahead, deed, **named)

    def keys_behind(self, rules, ahead, deed, ties=(), **named):
        """The rows of keys behind it all, in the order in which they were put in."""
        _, journal = ran(plan_with(ties, rules), ahead, deed, **named)
        return [entry[5] for entry in journal if entry[1] == "keys" and entry[4] is None]


class WithoutRulesTest(RunAsking):
    def test_a_drop(self):
        ties = (
            tie("in", "beds", "room", "rooms", "carry"), tie("of", "age", "bed", "beds", "empty"),
            tie("by", "beds", "next", "beds", "fallback"))
        ahead = [[(1, 0), (2, 0)], [(4, 1, None, None), (5, 2, 4, None)], [], [(1, 4), (2, 5)]]
        self.assert_ran([[(2, 0)], [(5, 2, 7, None)], [], [(1, None), (2, 5)]], [
            (0, "rooms", 1, None, (1, 0), None, DEED),
            (0, "beds", 4, None, (4, 1, None, None), None, ("tie", "in", 0)),
            (0, "beds", 5, "next", 4, 7, ("tie", "by", 1)),
            (0, "age", 1, "bed", 4, None, ("tie", "of", 1)),
        ], (), ahead, ("drop", "rooms", 1), ties)

    def test_a_key_that_is_set(self):
        ties = (
            tie("kr", "keys", "room", "rooms", "bar", "carry"),
            tie("ak", "age", "id", "keys", "bar", "carry"),
            tie("ba", "beds", "back", "keys", "bar", "empty"))
        ahead = [[(1, 0)], [(3, 1, 0, 1)], [(1, 5)], [(1, 0), (2, 0)]]
        self.assert_ran([[(9, 0)], [(3, 1, 0, None)], [(9, 5)], [(2, 0), (9, 0)]], [
            (0, "rooms", 1, "id", 1, 9, DEED),
            (0, "beds", 3, "back", 1, None, ("tie", "ba", 2)),
            (0, "keys", 1, "room", 1, 9, ("tie", "kr", 0)),
            (0, "age", 1, "id", 1, 9, ("tie", "ak", 2)),
        ], (), ahead, ("set", "rooms", 1, "id", 9), ties)

    def test_a_put(self):
        self.assert_ran([[(1, 4), (2, 6)], [], [(3, None)], []], [
            (0, "keys", 3, None, None, (3, None), DEED)], (), ROOMS, ("put", "keys", (3, None)))

    def test_a_sweep(self):
        self.assert_ran([[(2, 6)], [], [], []], [
            (0, "rooms", 1, None, (1, 4), None, DEED),
            (0, "rooms", 3, None, (3, 4), None, DEED),
        ], (), [[(1, 4), (2, 6), (3, 4)], [], [], []], ("sweep", "rooms", "size", 4))

    def test_a_shift(self):
        self.assert_ran([[(1, None), (2, 0), (3, 3)], [], [], []], [
            (0, "rooms", 2, "size", 6, 0, DEED),
            (0, "rooms", 3, "size", 9, 3, DEED),
        ], (), [[(1, None), (2, 6), (3, 9)], [], [], []], ("shift", "rooms", "size", -6))

    def test_keys_are_told_as_they_were_ahead(self):
        self.assert_ran([[(2, 4), (3, 6)], [], [], []], [
            (0, "rooms", 1, "id", 1, 2, DEED), (0, "rooms", 2, "id", 2, 3, DEED),
        ], (), ROOMS, ("shift", "rooms", "id", 1))

    def test_what_changes_nothing(self):
        for deed in (("set", "rooms", 1, "size", 4), ("sweep", "rooms", "size", 0),
                     ("shift", "rooms", "id", 0), ("shift", "keys", "held", 5)):
            self.assert_ran(ROOMS, [], (), ROOMS, deed)

    def test_a_cell_that_stays_is_no_entry(self):
        ties = (tie("a", "beds", "next", "rooms", "fallback"),)
        ahead = [[(7, 0)], [(1, None, 7, None)], [], []]
        self.assert_ran([[], ahead[1], [], []], [
            (0, "rooms", 7, None, (7, 0), None, DEED)], (), ahead, ("drop", "rooms", 7), ties)

    def test_by_names(self):
        told = ran(plan=plan_of(), content=BARE, deed=("put", "age", (1, 2)), order=(), most=1)
        self.assertEqual(told, ([[], [], [], [(1, 2)]], [(0, "age", 1, None, None, (1, 2), DEED)]))

    def test_most_is_40_where_none_is_told(self):
        self.assertEqual(MOST_DEEDS, 40)
        one = rule("a", "row", "beds", "drop", None, None, (("set", "rooms", 1, "size", 4),))
        for many, refused in ((39, False), (40, True)):
            beds = [(key, 0, 0, 0) for key in range(many)]
            ahead = [[(1, 4)], beds, [], []]
            deed = ("sweep", "beds", "room", 0)
            if refused:
                self.assert_run_refused(TooMany, {"most": 40}, [one], ahead, deed)
            else:
                content, journal = ran(plan_with((), [one]), ahead, deed)
                self.assertEqual((content, len(journal)), ([[(1, 4)], [], [], []], 39))


class CausesTest(RunAsking):
    TIES = (
        tie("a", "beds", "room", "rooms", "carry", "fallback"),
        tie("b", "beds", "back", "rooms", "carry", "fallback"),
        tie("c", "beds", "next", "beds", "carry"),
        tie("d", "beds", "back", "beds", "carry"),
    )

    def causes(self, ahead, deed, ties=TIES):
        _, journal = ran(plan_with(ties, ()), ahead, deed)
        return {entry[1:4]: entry[6] for entry in journal}

    def test_the_least_entry_ahead_of_the_first_tie(self):
        ahead = [[(1, 0), (2, 0)], [(4, 2, None, 1), (5, 2, None, 2)], [], []]
        told = self.causes(ahead, ("sweep", "rooms", "size", 0))
        self.assertEqual(told["beds", 4, None], ("tie", "b", 0))
        self.assertEqual(told["beds", 5, None], ("tie", "a", 1))

    def test_of_several_ties_the_first(self):
        ahead = [[(1, 0)], [(4, 1, None, 1)], [], []]
        told = self.causes(ahead, ("drop", "rooms", 1))
        self.assertEqual(told["beds", 4, None], ("tie", "a", 0))
        turned = self.TIES[1::-1] + self.TIES[2:]
        told = self.causes(ahead, ("drop", "rooms", 1), turned)
        self.assertEqual(told["beds", 4, None], ("tie", "b", 0))

    def test_the_nearest_ahead_of_the_least_entry(self):
        # Bed 4 goes by the room, bed 3 by bed 4, bed 9 by both: 4 is nearer, 3 the lesser one.
        ahead = [[(7, 0)], [(3, None, 4, None), (4, 7, None, None), (9, None, 3, 4)], [], []]
        told = self.causes(ahead, ("drop", "rooms", 7))
        self.assertEqual(told, {
            ("rooms", 7, None): DEED, ("beds", 3, None): ("tie", "c", 2),
            ("beds", 4, None): ("tie", "a", 0), ("beds", 9, None): ("tie", "d", 2)})

    def test_of_rows_as_near_the_least_entry(self):
        # The way to bed 8 is told by room 1 first, and bed 6 is the lesser one.
        ahead = [
            [(1, 0), (2, 0)],
            [(6, 2, None, None), (8, 1, None, None), (9, None, 8, 6)], [], []]
        told = self.causes(ahead, ("sweep", "rooms", "size", 0))
        self.assertEqual(told["beds", 9, None], ("tie", "d", 2))

    def test_cells_of_rows_that_go(self):
        ties = (tie("a", "beds", "room", "rooms", "empty"), tie("b", "beds", "room", "keys", "empty"))
        ahead = [[(1, 0)], [(5, 1, 0, 0)], [(1, 0)], []]
        self.assertEqual(self.causes(ahead, ("drop", "rooms", 1), ties), {
            ("rooms", 1, None): DEED, ("beds", 5, "room"): ("tie", "a", 0)})
        self.assertEqual(self.causes(ahead, ("drop", "keys", 1), ties), {
            ("keys", 1, None): DEED, ("beds", 5, "room"): ("tie", "b", 0)})

    def test_keys_that_are_turned(self):
        # Age 1 is turned by keys 1 straight, and keys 1 by room 1.
        ties = (
            tie("x", "age", "id", "age", "look", "look"), tie("y", "age", "id", "keys", "bar", "carry"),
            tie("z", "keys", "room", "rooms", "bar", "carry"),
            tie("w", "age", "id", "rooms", "bar", "carry"))
        ahead = [[(1, 0)], [], [(1, 0)], [(1, 0)]]
        self.assertEqual(self.causes(ahead, ("set", "rooms", 1, "id", 3), ties), {
            ("rooms", 1, "id"): DEED, ("keys", 1, "room"): ("tie", "z", 0),
            ("age", 1, "id"): ("tie", "w", 0)})

    def test_the_deed_itself_ahead_of_a_tie(self):
        ties = (tie("s", "keys", "room", "keys", "carry", "carry"),
                tie("t", "rooms", "size", "rooms", "carry"))
        self.assertEqual(self.causes([[], [], [(1, 0)], []], ("set", "keys", 1, "room", 4), ties), {
            ("keys", 1, "room"): DEED})
        ahead = [[(1, 0), (2, 1), (3, 2)], [], [], []]
        told = self.causes(ahead, ("sweep", "rooms", "size", 1), ties)
        self.assertEqual(told, {("rooms", 2, None): DEED, ("rooms", 3, None): ("tie", "t", 0)})
        ahead = [[(1, 4), (2, 1), (3, 1)], [], [], []]
        told = self.causes(ahead, ("sweep", "rooms", "size", 1), ties)
        self.assertEqual(told, {("rooms", 2, None): DEED, ("rooms", 3, None): DEED})

    def test_by_a_rule(self):
        """What an act does itself came of the rule, and the rest of ties, all numbered on."""
        one = rule("r", "row", "rooms", "set", None, None, (
            ("drop", "age", ("old", "id")), ("set", "age", 2, "id", ("new", "size"))))
        ties = (tie("t", "beds", "next", "age", "empty", "carry"),)
        ahead = [[(1, 4)], [(5, 0, 1, 0), (6, 0, 2, 0)], [], [(1, 0), (2, 0)]]
        self.assert_ran([[(1, 9)], [(5, 0, None, 0), (6, 0, 9, 0)], [], [(9, 0)]], [
            (0, "rooms", 1, "size", 4, 9, DEED),
            (1, "age", 1, None, (1, 0), None, ("rule", "r", 0)),
            (1, "beds", 5, "next", 1, None, ("tie", "t", 1)),
            (2, "beds", 6, "next", 2, 9, ("tie", "t", 4)),
            (2, "age", 2, "id", 2, 9, ("rule", "r", 0)),
        ], [one], ahead, ("set", "rooms", 1, "size", 9), ties)

    def test_the_first_entry_of_the_row(self):
        """A row may have several cells changed: the rule's number is the first one's."""
        ties = (tie("s", "beds", "room", "rooms", "bar", "carry"),
                tie("t", "beds", "back", "rooms", "bar", "empty"))
        watch = rule("r", "row", "beds", "set", "back", None, (log(("old", "id"), ("new", "room")),))
        many = rule("q", "deed", "beds", "set", "back", None, (log(9, ("many",)),))
        ahead = [[(1, 0)], [(5, 1, 0, 0), (6, 1, 0, 1), (7, 1, 0, 1)], [], []]
        _, journal = ran(plan_with(ties, [watch, many]), ahead, ("set", "rooms", 1, "id", 3))
        self.assertEqual(journal, [
            (0, "rooms", 1, "id", 1, 3, DEED),
            (0, "beds", 5, "room", 1, 3, ("tie", "s", 0)),
            (0, "beds", 6, "room", 1, 3, ("tie", "s", 0)),
            (0, "beds", 6, "back", 1, None, ("tie", "t", 0)),
            (0, "beds", 7, "room", 1, 3, ("tie", "s", 0)),
            (0, "beds", 7, "back", 1, None, ("tie", "t", 0)),
            (1, "keys", 6, None, None, (6, 3), ("rule", "r", 2)),
            (2, "keys", 7, None, None, (7, 3), ("rule", "r", 4)),
            (3, "keys", 9, None, None, (9, 2), ("rule", "q", 2)),
        ])


class WatchingTest(RunAsking):
    CHANGES = {
        "put": ("put", "rooms", (3, 5)), "drop": ("drop", "rooms", 1),
        "id": ("set", "rooms", 1, "id", 9), "size": ("set", "rooms", 1, "size", 9)}

    def assert_watched(self, names, kind, column=None, table="rooms"):
        for side in ("row", "deed"):
            one = rule("r", side, table, kind, column, None, (log(0, 0),))
            for name, deed in self.CHANGES.items():
                with self.subTest(side=side, kind=kind, column=column, deed=deed):
                    told = self.keys_behind([one], ROOMS, deed)
                    self.assertEqual(told, [(0, 0)] if name in names else [])

    def test_kinds(self):
        self.assert_watched(["put"], "put")
        self.assert_watched(["drop"], "drop")
        self.assert_watched(["id", "size"], "set")

    def test_columns(self):
        self.assert_watched(["id"], "set", "id")
        self.assert_watched(["size"], "set", "size")

    def test_other_tables(self):
        for kind in ("put", "drop", "set"):
            self.assert_watched([], kind, None, "beds")

    def test_what_stays_as_it_is_is_no_change(self):
        rules = [rule("r", side, "rooms", "set", None, None, (log(0, 0),)) for side in ("row", "deed")]
        for deed in (("set", "rooms", 1, "size", 4), ("shift", "rooms", "size", 0),
                     ("sweep", "rooms", "size", 7)):
            self.assertEqual(self.keys_behind(rules, ROOMS, deed), [])

    def test_old_and_new(self):
        for deed, kind, answer in (
                (("put", "rooms", (3, 5)), "put", ((3, 5), (5, 3))),
                (("drop", "rooms", 1), "drop", ((1, 4), (4, 1)))):
            side = "new" if kind == "put" else "old"
            acts = (log((side, "id"), (side, "size")), log((side, "size"), (side, "id")))
            told = self.keys_behind([rule("r", "row", "rooms", kind, None, None, acts)], ROOMS, deed)
            self.assertEqual(told, list(answer))
        acts = (log(("old", "id"), ("old", "size")), log(("new", "id"), ("new", "size")))
        one = rule("r", "row", "rooms", "set", None, None, acts)
        told = self.keys_behind([one], ROOMS, ("set", "rooms", 1, "id", 9))
        self.assertEqual(told, [(1, 4), (9, 4)])

    def test_what_ties_bring_is_watched_too(self):
        ties = (tie("t", "beds", "room", "rooms", "carry", "carry"),)
        ahead = [[(1, 4)], [(5, 1, 0, 0)], [], []]
        drop = rule("a", "row", "beds", "drop", None, None, (log(("old", "id"), 1),))
        move = rule("b", "row", "beds", "set", "room", None, (log(("old", "id"), ("new", "room")),))
        self.assertEqual(self.keys_behind([drop, move], ahead, ("drop", "rooms", 1), ties), [(5, 1)])
        deed = ("set", "rooms", 1, "id", 8)
        self.assertEqual(self.keys_behind([drop, move], ahead, deed, ties), [(5, 8)])

    def test_by_tables_and_by_keys_ahead(self):
        """A rule acts for each change, keys as they stood ahead of the deed."""
        ahead = [[(1, 4), (2, 6), (3, 8)], [], [], []]
        one = rule("r", "row", "rooms", "set", None, None, (log(("new", "id"), ("old", "id")),))
        told = self.keys_behind([one], ahead, ("shift", "rooms", "id", 1))
        self.assertEqual(told, [(2, 1), (3, 2), (4, 3)])

    def test_one_rule_behind_the_other(self):
        ahead = [[(1, 4), (2, 6)], [], [], []]
        rules = [
            rule("b", "row", "rooms", "set", "size", None, (log(("old", "id"), 0),)),
            rule("a", "deed", "rooms", "set", "size", None, (log(30, ("many",)),)),
            rule("c", "row", "rooms", "set", None, None, (log(("new", "size"), 1),)),
        ]
        deed = ("shift", "rooms", "size", 10)
        told = self.keys_behind(rules, ahead, deed)
        self.assertEqual(told, [(1, 0), (2, 0), (30, 2), (14, 1), (16, 1)])
        told = self.keys_behind(rules[::-1], ahead, deed)
        self.assertEqual(told, [(14, 1), (16, 1), (30, 2), (1, 0), (2, 0)])

    def test_deed_is_once_with_many(self):
        ahead = [[(1, 4), (2, 6), (3, None), (4, 1)], [], [], []]
        one = rule("a", "deed", "rooms", "set", "size", None, (log(("many",), ("many",)),))
        self.assertEqual(self.keys_behind([one], ahead, ("shift", "rooms", "size", 1)), [(3, 3)])
        self.assertEqual(self.keys_behind([one], ahead, ("set", "rooms", 3, "size", 1)), [(1, 1)])
        self.assertEqual(self.keys_behind([one], ahead, ("sweep", "rooms", "size", 4)), [])

    def test_many_counts_those_that_are_watched(self):
        ties = (tie("t", "beds", "room", "rooms", "carry"), tie("s", "beds", "next", "beds", "empty"))
        ahead = [[(1, 4)], [(5, 1, 0, 0), (6, 1, 0, 0), (7, 0, 5, 0), (8, 0, 6, 5)], [], []]
        rules = [
            rule("a", "deed", "beds", "drop", None, None, (log(1, ("many",)),)),
            rule("b", "deed", "rooms", "drop", None, None, (log(2, ("many",)),)),
            rule("c", "deed", "beds", "set", "next", None, (log(3, ("many",)),)),
            rule("d", "deed", "beds", "set", "back", None, (log(4, ("many",)),)),
        ]
        told = self.keys_behind(rules, ahead, ("drop", "rooms", 1), ties)
        self.assertEqual(told, [(1, 2), (2, 1), (3, 2)])


class TestsTest(RunAsking):
    def assert_held(self, answer, one, sign, other, row=(1, 4)):
        test = (one, sign, other)
        rules = [rule("r", "row", "rooms", "put", None, test, (log(0, 0),))]
        bars = [rule("r", "ahead", "rooms", "put", None, test)]
        deed = ("put", "rooms", row)
        with self.subTest(test=test, row=row):
            self.assertEqual(self.keys_behind(rules, BARE, deed), [(0, 0)] if answer else [])
            if answer:
                self.assert_run_refused(Stopped, {"rule": "r", "table": "rooms", "key": row[0]},
                                        bars, BARE, deed)
            else:
                self.assertEqual(ran(plan_with((), bars), BARE, deed)[0][0], [row])

    def test_less(self):
        for one, other, answer in (
                (1, 2, True), (2, 1, False), (1, 1, False), (-1, 0, True), (0, -1, False),
                (None, 1, False), (1, None, False), (None, None, False), (None, -5, False)):
            self.assert_held(answer, one, "less", other)

    def test_like_and_unlike(self):
        for one, other, answer in (
                (1, 2, False), (1, 1, True), (0, 0, True), (None, None, True), (None, 0, False),
                (0, None, False), (-3, -3, True)):
            self.assert_held(answer, one, "like", other)
            self.assert_held(not answer, one, "unlike", other)

    def test_places(self):
        size, key = ("new", "size"), ("new", "id")
        for row, less, like in (((1, 4), True, False), ((4, 1), False, False), ((3, 3), False, True),
                                ((3, None), False, False)):
            self.assert_held(less, key, "less", size, row)
            self.assert_held(like, key, "like", size, row)
            self.assert_held(not like, size, "unlike", key, row)
            self.assert_held(row[1] is None, size, "like", None, row)

    def test_old_and_new_of_a_set(self):
        test = (("old", "size"), "less", ("new", "size"))
        rules = [rule("r", "row", "rooms", "set", None, test, (log(("old", "id"), 0),))]
        for size, answer in ((5, [(1, 0)]), (3, []), (None, [])):
            deed = ("set", "rooms", 1, "size", size)
            self.assertEqual(self.keys_behind(rules, ROOMS, deed), answer)

    def test_some_changes_alone(self):
        test = (("old", "size"), "like", 6)
        rules = [rule("r", "row", "rooms", "set", None, test, (log(("old", "id"), 0),))]
        self.assertEqual(self.keys_behind(rules, ROOMS, ("shift", "rooms", "size", 1)), [(2, 0)])

    def test_many(self):
        for many, answer in ((1, []), (2, [(0, 2)]), (3, [])):
            rules = [rule("r", "deed", "rooms", "set", None, (("many",), "like", many),
                          (log(0, ("many",)),))]
            told = self.keys_behind(rules, ROOMS, ("shift", "rooms", "size", 1))
            self.assertEqual(told, answer)


class AheadTest(RunAsking):
    def bars(self, name, kind, column, one, sign, other, table="rooms"):
        return rule(name, "ahead", table, kind, column, (one, sign, other))

    def assert_stopped(self, answer, rules, ahead, deed, ties=()):
        fields = dict(zip(("rule", "table", "key"), answer))
        self.assert_run_refused(Stopped, fields, rules, ahead, deed, ties)

    def test_each_kind(self):
        self.assert_stopped(("b", "rooms", 3), [self.bars("b", "put", None, 1, "like", 1)],
                            ROOMS, ("put", "rooms", (3, 4)))
        self.assert_stopped(("b", "rooms", 2), [self.bars("b", "drop", None, 1, "like", 1)],
                            ROOMS, ("drop", "rooms", 2))
        self.assert_stopped(("b", "rooms", 2), [self.bars("b", "set", None, 1, "like", 1)],
                            ROOMS, ("set", "rooms", 2, "size", 2))

    def test_the_key_ahead_of_the_deed(self):
        rules = [self.bars("b", "set", "id", ("new", "id"), "like", 7)]
        self.assert_stopped(("b", "rooms", 2), rules, ROOMS, ("set", "rooms", 2, "id", 7))
        self.assert_stopped(("b", "rooms", 1), rules, ROOMS, ("shift", "rooms", "id", 6))
        self.assert_stopped(("b", "rooms", 2), rules, ROOMS, ("shift", "rooms", "id", 5))

    def test_change_by_change_then_rules_in_order(self):
        two = self.bars("z", "set", None, ("old", "id"), "like", 2)
        any_one = self.bars("y", "set", None, 0, "less", 1)
        deed = ("shift", "rooms", "size", 1)
        self.assert_stopped(("y", "rooms", 1), [two, any_one], ROOMS, deed)
        self.assert_stopped(("z", "rooms", 2), [two], ROOMS, deed)
        other = self.bars("x", "set", None, 0, "less", 1)
        self.assert_stopped(("y", "rooms", 1), [any_one, other], ROOMS, deed)
        self.assert_stopped(("x", "rooms", 1), [other, any_one], ROOMS, deed)

    def test_tables_in_order(self):
        ties = (tie("t", "beds", "room", "rooms", "empty"),)
        ahead = [[(9, 4)], [(1, 9, 0, 0)], [], []]
        beds = self.bars("b", "set", None, 0, "less", 1, "beds")
        rooms = self.bars("r", "drop", None, 0, "less", 1)
        self.assert_stopped(("r", "rooms", 9), [beds, rooms], ahead, ("drop", "rooms", 9), ties)
        self.assert_stopped(("b", "beds", 1), [beds], ahead, ("drop", "rooms", 9), ties)

    def test_drops_and_sets_of_one_table_by_keys(self):
        ties = (tie("t", "beds", "next", "beds", "empty"),)
        sets = self.bars("s", "set", None, 0, "less", 1, "beds")
        drops = self.bars("d", "drop", None, 0, "less", 1, "beds")
        for low, high, answer in ((1, 2, ("s", "beds", 1)), (2, 1, ("d", "beds", 1))):
            ahead = [[], sorted([(high, 0, None, 0), (low, 0, high, 0)]), [], []]
            for rules in ([sets, drops], [drops, sets]):
                self.assert_stopped(answer, rules, ahead, ("drop", "beds", high), ties)

    def test_ahead_of_taken_and_loose(self):
        bars = self.bars("b", "set", "id", 1, "like", 1)
        self.assert_stopped(("b", "rooms", 1), [bars], ROOMS, ("set", "rooms", 1, "id", 2))
        ties = (tie("t", "beds", "room", "rooms", when="once"),)
        puts = self.bars("b", "put", None, 1, "like", 1, "beds")
        deed = ("put", "beds", (1, 9, 0, 0))
        self.assert_stopped(("b", "beds", 1), [puts], BARE, deed, ties)
        self.assert_run_refused(Loose, {"pairs": [("t", 1)]}, [], BARE, deed, ties)

    def test_behind_what_brought_refuses(self):
        puts = self.bars("b", "put", None, 1, "like", 1)
        drops = self.bars("c", "drop", None, 1, "like", 1)
        sets = self.bars("d", "set", None, 1, "like", 1)
        rules = [puts, drops, sets]
        self.assert_run_refused(
            Taken, {"table": "rooms", "key": 1}, rules, ROOMS, ("put", "rooms", (1, 1)))
        self.assert_run_refused(
            NoRow, {"table": "rooms", "key": 3}, rules, ROOMS, ("drop", "rooms", 3))
        ahead = [[(1, 4), (2, 6)], [(5, 1, 0, 1)], [], []]
        bar = (tie("t", "beds", "room", "rooms", "bar", "bar"),)
        self.assert_run_refused(
            Barred, {"tie": "t", "key": 5}, rules, ahead, ("drop", "rooms", 1), bar)
        part = (tie("t", "beds", "room", "rooms", "empty"), tie("s", "beds", "room", "rooms", "fallback"))
        fields = {"table": "beds", "key": 5, "column": "room"}
        self.assert_run_refused(Parted, fields, rules, ahead, ("drop", "rooms", 1), part)

    def test_acts_are_asked_too(self):
        acts = (log(1, 1), log(2, 2), log(3, 3))
        one = rule("r", "row", "rooms", "drop", None, None, acts)
        bars = self.bars("b", "put", None, ("new", "held"), "like", 2, "keys")
        self.assert_stopped(("b", "keys", 2), [one, bars], ROOMS, ("drop", "rooms", 1))

    def test_nothing_is_changed_where_nothing_is_barred(self):
        bars = self.bars("b", "drop", None, ("old", "size"), "less", 6)
        self.assert_stopped(("b", "rooms", 1), [bars], ROOMS, ("drop", "rooms", 1))
        self.assert_ran([[(1, 4)], [], [], []], [
            (0, "rooms", 2, None, (2, 6), None, DEED)], [bars], ROOMS, ("drop", "rooms", 2))


class WaitingTest(RunAsking):
    # Each put into rooms is told on to age; those and the put of a room are logged.
    RULES = (
        rule("on", "row", "rooms", "put", None, None, (
            ("put", "age", (("new", "id"), 1)), ("put", "age", (("new", "size"), 2)))),
        rule("room", "row", "rooms", "put", None, None, (log(("new", "id"), 3),)),
        rule("age", "row", "age", "put", None, None, (log(("new", "id"), ("new", "bed")),)),
    )
    DEED = ("put", "rooms", (50, 60))

    def orders(self, *order):
        rules = [self.RULES[0], self.RULES[1], rule(
            "age", "row", "age", "put", None, None,
            (("put", "beds", (("new", "id"), 0, 0, 0)),))]
        _, journal = ran(plan_with((), rules), BARE, self.DEED, order=order)
        return [entry[1:3] for entry in journal[1:]]

    def test_first_come_first(self):
        self.assertEqual(self.orders(), [
            ("age", 50), ("age", 60), ("keys", 50), ("beds", 50), ("beds", 60)])

    def test_an_order(self):
        first, second = [("age", 50), ("age", 60)], [("keys", 50)]
        low, high = [("beds", 50)], [("beds", 60)]
        for order, answer in (
                ((0,), first + second + low + high),
                ((1,), second + first + low + high),
                ((0, 1), first + low + second + high),
                ((0, 1, 1), first + low + high + second),
                ((0, 2), first + high + second + low),
                ((0, 2, 1), first + high + low + second),
                ((1, 0, 1), second + first + high + low),
                ((0, 0, 1), first + second + high + low)):
            with self.subTest(order=order):
                self.assertEqual(self.orders(*order), answer)

    def test_numbers_are_counted_round_those_that_wait(self):
        for order, like in (
                ((2,), (0,)), ((3,), (1,)), ((10 ** 40,), (0,)), ((10 ** 40 + 1,), (1,)),
                ((0, 3), (0, 0)), ((0, 4), (0, 1)), ((0, 5), (0, 2)), ((0, 10 ** 12), (0, 1)),
                ((2, 5, 9), (0, 2, 1)), ((0, 0, 0, 7, 9, 11), ())):
            with self.subTest(order=order):
                self.assertEqual(self.orders(*order), self.orders(*like))

    def test_the_rules_that_are_set_off_wait_behind_the_others(self):
        self.assert_run_refused(
            Taken, {"table": "keys", "key": 50}, self.RULES, BARE, self.DEED)
        content, journal = ran(plan_with((), self.RULES[:1] + self.RULES[2:]), BARE, self.DEED)
        self.assertEqual(content, [[(50, 60)], [], [(50, 1), (60, 2)], [(50, 1), (60, 2)]])
        self.assertEqual(journal, [
            (0, "rooms", 50, None, None, (50, 60), DEED),
            (1, "age", 50, None, None, (50, 1), ("rule", "on", 0)),
            (2, "age", 60, None, None, (60, 2), ("rule", "on", 0)),
            (3, "keys", 50, None, None, (50, 1), ("rule", "age", 1)),
            (4, "keys", 60, None, None, (60, 2), ("rule", "age", 2)),
        ])

    def test_more_numbers_than_takings(self):
        rules = self.RULES[:1]
        self.assert_ran(
            [[(50, 60)], [], [], [(50, 1), (60, 2)]], [
                (0, "rooms", 50, None, None, (50, 60), DEED),
                (1, "age", 50, None, None, (50, 1), ("rule", "on", 0)),
                (2, "age", 60, None, None, (60, 2), ("rule", "on", 0)),
            ], rules, BARE, self.DEED, order=(5, 6, 7, 8))

    def test_worths_are_those_of_the_change(self):
        """What an act reads is what stood when the change was made, not what stands since."""
        acts = (("set", "rooms", 1, "size", 100), ("set", "rooms", 2, "size", ("new", "size")),
                ("add", "rooms", 1, "size", ("old", "size")))
        one = rule("r", "row", "rooms", "set", "id", None, acts)
        ahead = [[(1, 4), (2, 6), (3, 8)], [], [], []]
        self.assert_ran([[(1, 108), (2, 8), (9, 8)], [], [], []], [
            (0, "rooms", 3, "id", 3, 9, DEED),
            (1, "rooms", 1, "size", 4, 100, ("rule", "r", 0)),
            (2, "rooms", 2, "size", 6, 8, ("rule", "r", 0)),
            (3, "rooms", 1, "size", 100, 108, ("rule", "r", 0)),
        ], [one], ahead, ("set", "rooms", 3, "id", 9))


class ActsTest(RunAsking):
    # A drop in age is answered by one act on rooms.
    AHEAD = [[(1, 4), (2, None)], [], [], [(1, None), (2, 9), (3, 10 ** 9)]]

    def rooms_behind(self, *acts, key=2, ties=(), ahead=AHEAD, **named):
        one = rule("r", "row", "age", "drop", None, None, acts)
        content, journal = ran(plan_with(ties, [one]), ahead, ("drop", "age", key), **named)
        return content[0], [entry[0] for entry in journal]

    def test_each_act(self):
        bed = ("old", "bed")
        for act, rooms in (
                (("put", "rooms", (bed, None)), [(1, 4), (2, None), (9, None)]),
                (("put", "rooms", (7, bed)), [(1, 4), (2, None), (7, 9)]),
                (("drop", "rooms", ("old", "id")), [(1, 4)]),
                (("drop", "rooms", 1), [(2, None)]),
                (("set", "rooms", 1, "size", bed), [(1, 9), (2, None)]),
                (("set", "rooms", 1, "size", None), [(1, None), (2, None)]),
                (("set", "rooms", 1, "id", bed), [(2, None), (9, 4)]),
                (("add", "rooms", 1, "size", bed), [(1, 13), (2, None)]),
                (("add", "rooms", 1, "size", -4), [(1, 0), (2, None)]),
                (("add", "rooms", 1, "id", bed), [(2, None), (10, 4)])):
            with self.subTest(act=act):
                self.assertEqual(self.rooms_behind(act), (rooms, [0, 1]))

    def test_left_out_where_the_key_is_nothing(self):
        bed = ("old", "bed")
        for key in (bed, None):
            for act in (("put", "rooms", (key, 1)), ("drop", "rooms", key),
                        ("set", "rooms", key, "size", 1), ("add", "rooms", key, "size", 1),
                        ("set", "rooms", key, "id", None)):
                with self.subTest(act=act):
                    told = self.rooms_behind(act, key=1, most=1)
                    self.assertEqual(told, (self.AHEAD[0], [0]))

    def test_left_out_where_no_row_is_there(self):
        for act in (("drop", "rooms", 9), ("set", "rooms", 9, "size", 1),
                    ("add", "rooms", 9, "size", 1), ("set", "rooms", 9, "id", None),
                    ("drop", "rooms", ("old", "bed")), ("drop", "beds", 1)):
            with self.subTest(act=act):
                told = self.rooms_behind(act, most=1)
                self.assertEqual(told, (self.AHEAD[0], [0]))

    def test_left_out_where_a_number_lacks(self):
        for act, key in ((("add", "rooms", 2, "size", 1), 2), (("add", "rooms", 1, "size", None), 2),
                         (("add", "rooms", 1, "size", ("old", "bed")), 1),
                         (("add", "rooms", 2, "size", None), 2), (("add", "rooms", 1, "id", None), 2)):
            with self.subTest(act=act):
                told = self.rooms_behind(act, key=key, most=1)
                self.assertEqual(told, (self.AHEAD[0], [0]))

    def test_what_is_left_out_has_no_number(self):
        acts = (("drop", "rooms", 9), ("set", "rooms", 1, "size", 5))
        self.assertEqual(self.rooms_behind(*acts, most=2), ([(1, 5), (2, None)], [0, 1]))

    def test_what_changes_nothing_has_a_number(self):
        acts = (("set", "rooms", 1, "size", 4), ("add", "rooms", 1, "size", 0),
                ("set", "rooms", 1, "size", 5))
        self.assertEqual(self.rooms_behind(*acts), ([(1, 5), (2, None)], [0, 3]))

    def test_left_out_by_what_stands_then(self):
        acts = (("drop", "rooms", 1), ("set", "rooms", 1, "size", 7), ("drop", "rooms", 1))
        self.assertEqual(self.rooms_behind(*acts, most=2), ([(2, None)], [0, 1]))
        acts = (("put", "rooms", (9, 1)), ("add", "rooms", 9, "size", 1), ("drop", "rooms", 1))
        self.assertEqual(self.rooms_behind(*acts), ([(2, None), (9, 2)], [0, 1, 2, 3]))
        acts = (("set", "rooms", 2, "size", 1), ("add", "rooms", 2, "size", 1))
        self.assertEqual(self.rooms_behind(*acts), ([(1, 4), (2, 2)], [0, 1, 2]))

    def test_sums_may_be_great(self):
        acts = (("add", "rooms", 1, "size", ("old", "bed")),) * 3
        told = self.rooms_behind(*acts, key=3)
        self.assertEqual(told, ([(1, 3 * 10 ** 9 + 4), (2, None)], [0, 1, 2, 3]))

    def test_acts_bring_what_ties_bring(self):
        ties = (tie("t", "rooms", "size", "rooms", "carry", "carry"),)
        ahead = [[(1, None), (2, 1), (3, 2)], [], [], [(2, 9)]]
        told = self.rooms_behind(("drop", "rooms", 1), ties=ties, ahead=ahead)
        self.assertEqual(told, ([], [0, 1, 1, 1]))
        told = self.rooms_behind(("set", "rooms", 1, "id", ("old", "bed")), ties=ties, ahead=ahead)
        self.assertEqual(told, ([(2, 9), (3, 2), (9, None)], [0, 1, 1]))


class RefusedTest(RunAsking):
    def assert_acts_refused(self, error, fields, *acts, ties=(), ahead=ROOMS, rules=(), **named):
        one = rule("r", "row", "rooms", "drop", None, None, acts)
        self.assert_run_refused(
            error, fields, [one, *rules], ahead, ("drop", "rooms", 1), ties, **named)

    def test_taken_by_a_put(self):
        self.assert_acts_refused(
            Taken, {"table": "rooms", "key": 2}, ("put", "rooms", (2, None)))
        self.assert_acts_refused(
            Taken, {"table": "keys", "key": 5}, log(5, 5), log(6, 6), log(5, 7))

    def test_taken_by_a_set(self):
        ahead = [[(1, 1), (2, 2), (3, 3)], [], [], []]
        fields = {"table": "rooms", "key": 3}
        self.assert_acts_refused(Taken, fields, ("set", "rooms", 2, "id", 3), ahead=ahead)

    def test_barred_parted_and_loose(self):
        ahead = [[(1, 4), (2, 6)], [(5, 2, 0, 1)], [], []]
        bar = (tie("t", "beds", "room", "rooms", "bar"),)
        act = ("drop", "rooms", 2)
        self.assert_acts_refused(Barred, {"tie": "t", "key": 5}, act, ties=bar, ahead=ahead)
        part = (tie("t", "beds", "room", "rooms", "empty"), tie("s", "beds", "room", "rooms", "fallback"))
        fields = {"table": "beds", "key": 5, "column": "room"}
        self.assert_acts_refused(Parted, fields, act, ties=part, ahead=ahead)
        once = (tie("t", "beds", "room", "rooms", when="once"),)
        self.assert_acts_refused(Loose, {"pairs": [("t", 5)]}, act, ties=once, ahead=ahead)
        end = (tie("t", "beds", "room", "rooms", when="end"),)
        one = rule("r", "row", "rooms", "drop", None, None, (act,))
        content, _ = ran(plan_with(end, [one]), ahead, ("drop", "rooms", 1))
        self.assertEqual(content, [[], ahead[1], [], []])

    def test_no_key(self):
        self.assert_acts_refused(NoKey, {"rule": "r"}, ("set", "rooms", 2, "id", None))
        self.assert_acts_refused(NoKey, {"rule": "r"}, ("set", "rooms", 2, "id", ("old", "size")),
                                 ahead=[[(1, None), (2, 2)], [], [], []])

    def test_no_key_of_a_later_rule(self):
        later = rule("s", "deed", "keys", "put", None, None, (("set", "keys", 5, "room", None),))
        self.assert_acts_refused(NoKey, {"rule": "s"}, log(5, 5), rules=[later])

    def test_the_first_that_comes(self):
        acts = (log(5, 5), log(5, 6), ("set", "rooms", 2, "id", None))
        self.assert_acts_refused(Taken, {"table": "keys", "key": 5}, *acts)
        self.assert_acts_refused(NoKey, {"rule": "r"}, acts[2], *acts[:2])

    def test_too_many(self):
        acts = (log(1, 1), log(2, 2), ("set", "keys", 2, "held", 2))
        for most in (1, 2, 3):
            self.assert_acts_refused(TooMany, {"most": most}, *acts, most=most)
        one = rule("r", "row", "rooms", "drop", None, None, acts)
        for most in (4, 5, 200):
            content, journal = ran(plan_with((), [one]), ROOMS, ("drop", "rooms", 1), most=most)
            self.assertEqual(content, [[(2, 6)], [], [(1, 1), (2, 2)], []])
            self.assertEqual([entry[0] for entry in journal], [0, 1, 2])

    def test_the_first_one_is_counted(self):
        one = rule("r", "row", "rooms", "drop", None, None, (log(1, 1),))
        deed = ("put", "rooms", (9, 9))
        content, _ = ran(plan_with((), [one]), ROOMS, deed, most=1)
        self.assertEqual(content[0], [(1, 4), (2, 6), (9, 9)])
        self.assert_acts_refused(TooMany, {"most": 1}, log(1, 1), most=1)

    def test_too_many_goes_ahead_of_no_key_and_of_the_deeds_own(self):
        for act in (("set", "rooms", 2, "id", None), ("put", "rooms", (2, 2)),
                    ("set", "rooms", 2, "size", 6)):
            self.assert_acts_refused(TooMany, {"most": 1}, act, most=1)
            self.assert_acts_refused(TooMany, {"most": 2}, log(1, 1), act, most=2)

    def test_no_key_goes_ahead_of_the_deeds_own(self):
        ties = (tie("t", "beds", "room", "rooms", "bar", "bar"),)
        ahead = [[(1, 4), (2, 6)], [(5, 2, 0, 1)], [], []]
        bars = rule("b", "ahead", "rooms", "set", None, (0, "less", 1))
        act = ("set", "rooms", 2, "id", None)
        self.assert_acts_refused(NoKey, {"rule": "r"}, act, ties=ties, ahead=ahead, rules=[bars])

    def test_the_deed_itself_goes_first(self):
        one = rule("r", "row", "rooms", "drop", None, None, (("set", "rooms", 2, "id", None),))
        self.assert_run_refused(
            NoRow, {"table": "rooms", "key": 7}, [one], ROOMS, ("drop", "rooms", 7), most=1)


class CastRunsTest(RunAsking):
    def outcome(self, ask, *things, **named):
        try:
            return ask(*things, **named)
        except naive_run.Refused as refused:
            return refused.args
        except TableError as error:
            self.assertIs(type(error), getattr(errors, type(error).__name__))
            return (type(error).__name__, *vars(error).values())

    def test_cast_plans(self):
        told_of = {}
        for seed in range(600):
            plan, content, deed = cast_run(seed)
            dice = Dice(seed + 5)
            far = [dice.below(50) for _ in range(dice.below(6))]
            for order, most in (((), 40), (far, 1 + dice.below(5)), ([seed] * 9, 40)):
                with self.subTest(seed=seed, order=order, most=most):
                    answer = self.outcome(naive_run.ran, plan, content, deed, order, most)
                    told = self.outcome(ran, plan, content, deed, order=order, most=most)
                    self.assertEqual(told, answer)
                    shaped = self.outcome(
                        ran, listed(plan), listed(content), listed(deed), order=order, most=most)
                    self.assertEqual(shaped, answer)
                    kind = told[0] if isinstance(told[0], str) else "done"
                    told_of[kind] = told_of.get(kind, 0) + 1
        for kind in ("done", "NoRow", "Taken", "Barred", "Stopped", "Loose", "TooMany"):
            self.assertGreater(told_of.get(kind, 0), 3)

    def test_without_rules_as_carried(self):
        for seed in range(200):
            plan, content, deed = cast_run(seed)
            plan = (*plan[:2], ())
            told = self.outcome(ran, plan, content, deed)
            if not isinstance(told[0], str):
                told = told[0]
            self.assertEqual(told, self.outcome(carried, plan, content, deed))
