from tests import naive_run
from tests.dice import cast_run
from tests.house import TABLES, plan_of, plan_with, rule, tie
from tests.parts import NO_TUPLES, Asking, places, spoiled
from tiedtables.ranks import is_ranks, is_ring, may_bring, ranks, sets_off

HOUSE = plan_of(
    tie("in", "beds", "room", "rooms", "carry", "carry"),
    tie("of", "age", "bed", "beds", "empty", "fallback"),
    tie("kr", "keys", "room", "rooms", "look", "carry"),
    tie("ak", "age", "id", "keys", "carry", "carry"),
    tie("by", "beds", "next", "beds", "fallback", "look"),
)
PUT_AGE = ("put", "age", (("old", "held"), 0))
SET_AGE = ("set", "age", 1, "bed", 2)


def puts(table):
    """An act that puts a row into the table."""
    columns = [part for name, part in TABLES if name == table][0]
    return ("put", table, (1,) * len(columns))


def by_acts(*acts):
    return rule("a", "row", "keys", "set", "held", None, acts)


class MayBringTest(Asking):
    def assert_brings(self, answer, *kind, plan=HOUSE):
        self.assert_tells(answer, may_bring, plan, *kind)

    def test_itself_alone(self):
        self.assert_brings([("rooms", "put", None)], "rooms", "put")
        self.assert_brings([("rooms", "put", None)], "rooms", "put", None)
        self.assert_brings([("rooms", "set", "size")], "rooms", "set", "size")
        self.assert_brings([("age", "drop", None)], "age", "drop")
        self.assert_brings([("age", "set", "id")], "age", "set", "id")
        self.assert_brings([("beds", "set", "next")], "beds", "set", "next")
        self.assert_brings([("keys", "set", "held")], "keys", "set", "held")

    def test_a_drop_goes_on_and_on(self):
        self.assert_brings([
            ("rooms", "drop", None), ("beds", "drop", None), ("beds", "set", "next"),
            ("age", "set", "bed")], "rooms", "drop", None)
        self.assert_brings([("keys", "drop", None), ("age", "drop", None)], "keys", "drop")

    def test_a_key_goes_on_and_on(self):
        self.assert_brings([
            ("rooms", "set", "id"), ("beds", "set", "room"), ("keys", "set", "room"),
            ("age", "set", "id")], "rooms", "set", "id")
        self.assert_brings([("beds", "set", "id"), ("age", "set", "bed")], "beds", "set", "id")
        self.assert_brings([("keys", "set", "room"), ("age", "set", "id")], "keys", "set", "room")

    def test_each_way(self):
        low, high = ("beds", "set", "room"), ("rooms", "drop", None)
        key = ("rooms", "set", "id")
        for way in ("bar", "carry", "empty", "fallback", "look"):
            gone = plan_of(tie("t", "beds", "room", "rooms", way, "look"))
            turned = plan_of(tie("t", "beds", "room", "rooms", "look", way))
            dropped = {"carry": [("beds", "drop", None)], "empty": [low], "fallback": [low]}
            moved = {"carry": [low], "empty": [low], "fallback": [low]}
            self.assert_brings([high] + dropped.get(way, []), *high, plan=gone)
            self.assert_brings([key], *key, plan=gone)
            self.assert_brings([key] + moved.get(way, []), *key, plan=turned)
            self.assert_brings([high], *high, plan=turned)

    def test_the_tie_is_on_the_other_table(self):
        plan = plan_of(tie("t", "beds", "room", "rooms", "carry", "carry"))
        self.assert_brings([("beds", "drop", None)], "beds", "drop", plan=plan)
        self.assert_brings([("beds", "set", "room")], "beds", "set", "room", plan=plan)

    def test_tables_kinds_and_columns_in_order(self):
        plan = plan_of(
            tie("a", "rooms", "size", "age", "empty"),
            tie("b", "beds", "back", "age", "empty"),
            tie("c", "age", "bed", "age", "fallback"),
            tie("d", "beds", "next", "age", "fallback"),
            tie("e", "beds", "room", "age", "empty"),
            tie("f", "beds", "room", "age", "carry"),
        )
        self.assert_brings([
            ("rooms", "set", "size"), ("beds", "drop", None), ("beds", "set", "room"),
            ("beds", "set", "next"), ("beds", "set", "back"), ("age", "drop", None),
            ("age", "set", "bed")], "age", "drop", plan=plan)

    def test_round_and_round(self):
        plan = plan_of(
            tie("a", "rooms", "id", "keys", "carry", "carry"),
            tie("b", "keys", "room", "rooms", "carry", "carry"),
            tie("c", "keys", "room", "keys", "carry", "carry"),
        )
        drops = [("rooms", "drop", None), ("keys", "drop", None)]
        sets = [("rooms", "set", "id"), ("keys", "set", "room")]
        for table, column in (("rooms", "id"), ("keys", "room")):
            self.assert_brings(drops, table, "drop", plan=plan)
            self.assert_brings(sets, table, "set", column, plan=plan)

    def test_by_names(self):
        told = may_bring(plan=HOUSE, table="keys", kind="set", column="held")
        self.assertEqual(told, [("keys", "set", "held")])


class SetsOffTest(Asking):
    def assert_sets_off(self, answer, *rules, ties=()):
        self.assert_tells(answer, sets_off, plan_with(ties, rules))

    def watched_by(self, *watch):
        return rule("b", "deed", *watch, None, (puts("rooms"),))

    def test_none(self):
        self.assert_sets_off([])
        self.assert_sets_off([], by_acts(PUT_AGE))

    def test_each_act_makes_a_change_of_its_kind(self):
        acts = {
            "put": puts("beds"), "drop": ("drop", "beds", 1), "set": ("set", "beds", 1, "next", 1),
            "add": ("add", "beds", 1, "next", 1)}
        for how, act in acts.items():
            for kind in ("put", "drop", "set"):
                made = kind == {"add": "set"}.get(how, how)
                answer = [("a", "b")] if made else []
                self.assert_sets_off(answer, by_acts(act), self.watched_by("beds", kind, None))
                self.assert_sets_off([], by_acts(act), self.watched_by("keys", kind, None))

    def test_columns_that_are_watched(self):
        for how in ("set", "add"):
            act = (how, "beds", 1, "next", 1)
            for column in ("id", "room", "next", "back", None):
                answer = [("a", "b")] if column in ("next", None) else []
                self.assert_sets_off(answer, by_acts(act), self.watched_by("beds", "set", column))

    def test_by_ties_and_on(self):
        ties = (tie("a", "beds", "id", "rooms", "carry"), tie("b", "age", "bed", "beds", "empty"))
        act = ("drop", "rooms", 1)
        other = self.watched_by("age", "set", "bed")
        self.assert_sets_off([("a", "b")], by_acts(act), other, ties=ties)
        self.assert_sets_off([], by_acts(act), other, ties=ties[:1])
        self.assert_sets_off([], by_acts(act), self.watched_by("age", "set", "id"), ties=ties)
        self.assert_sets_off([], by_acts(act), self.watched_by("age", "drop", None), ties=ties)

    def test_any_of_the_acts(self):
        other = self.watched_by("age", "put", None)
        for acts in ((PUT_AGE,), (SET_AGE, PUT_AGE), (SET_AGE, SET_AGE, PUT_AGE)):
            self.assert_sets_off([("a", "b")], by_acts(*acts), other)
        self.assert_sets_off([], by_acts(SET_AGE, SET_AGE), other)

    def test_ahead_is_set_off_by_none(self):
        bars = rule("b", "ahead", "age", "put", None, (0, "like", 0))
        self.assert_sets_off([], by_acts(PUT_AGE), bars)
        self.assert_sets_off([], bars, by_acts(PUT_AGE))

    def test_itself(self):
        one = rule("z", "row", "age", "put", None, None, (puts("age"),))
        self.assert_sets_off([("z", "z")], one)

    def test_pairs_by_the_order_of_both(self):
        rules = [rule(name, "row", "age", "put", None, None, (puts("age"),)) for name in "cab"]
        answer = [(one, other) for one in "cab" for other in "cab"]
        self.assert_sets_off(answer, *rules)

    def test_tests_are_not_looked_at(self):
        never = rule("b", "row", "age", "put", None, (0, "less", 0), (puts("rooms"),))
        self.assert_sets_off([("a", "b")], by_acts(PUT_AGE), never)


def chain(*pairs):
    """Rules of the names in pairs, each (rule, table that it watches, tables that it acts on)."""
    return plan_with((), [
        rule(name, "row", watched, "put", None, None, tuple(puts(table) for table in tables))
        for name, watched, tables in pairs])


class RanksTest(Asking):
    def test_none(self):
        self.assert_tells(([], None), ranks, plan_of())

    def test_least_numbers(self):
        plan = chain(
            ("low", "age", ("rooms",)), ("top", "keys", ("beds", "age")), ("mid", "beds", ("age",)))
        self.assert_tells(([0, 2, 1], None), ranks, plan)

    def test_the_longest_way_down_counts(self):
        plan = chain(
            ("a", "rooms", ("age", "beds")), ("b", "beds", ("keys",)), ("c", "keys", ("age",)))
        last = rule("d", "row", "age", "put", None, None, (("drop", "age", 1),))
        self.assert_tells(([3, 2, 1, 0], None), ranks, plan_with((), [*plan[2], last]))

    def test_ahead_has_rank_0(self):
        bars = rule("b", "ahead", "age", "put", None, (0, "like", 0))
        plan = plan_with((), [by_acts(PUT_AGE), bars])
        self.assert_tells(([0, 0], None), ranks, plan)

    def test_a_ring_of_one(self):
        self.assert_tells((None, ["z"]), ranks, chain(("z", "age", ("age",))))
        plan = chain(("a", "beds", ("age",)), ("z", "age", ("rooms", "age")))
        self.assert_tells((None, ["z"]), ranks, plan)

    def assert_ring(self, plan, names):
        told, ring = ranks(plan)
        self.assertIsNone(told)
        self.assertEqual(sorted(ring), names)
        self.assertIs(is_ring(plan, ring), True)
        self.assert_tells((None, ring), ranks, plan)

    def test_rings(self):
        self.assert_ring(chain(("b", "age", ("beds",)), ("a", "beds", ("age",))), ["a", "b"])
        self.assert_ring(chain(
            ("a", "rooms", ("beds",)), ("b", "beds", ("keys",)), ("c", "keys", ("age",)),
            ("d", "age", ("beds",))), ["b", "c", "d"])
        # What stands beside the ring, above it or below it, is not in it.
        below = rule("low", "row", "age", "put", None, None, (("drop", "age", 1),))
        plan = chain(("top", "rooms", ("keys",)), ("a", "keys", ("beds",)), ("b", "beds", ("keys", "age")))
        self.assert_ring((plan[0], (), (below, *plan[2])), ["a", "b"])

    def test_two_rings(self):
        plan = chain(("a", "age", ("age", "beds")), ("b", "beds", ("age",)), ("c", "keys", ("keys",)))
        _, ring = ranks(plan)
        self.assertIs(is_ring(plan, ring), True)

    def test_by_ties(self):
        ties = (tie("t", "age", "bed", "beds", "empty"),)
        one = rule("z", "row", "age", "set", "bed", None, (("drop", "beds", ("old", "bed")),))
        self.assert_tells((None, ["z"]), ranks, plan_with(ties, [one]))
        self.assert_tells(([0], None), ranks, plan_with((), [one]))

    def test_eight_rules(self):
        rules = [rule(name, "row", "age", "put", None, None, (("drop", "beds", 1),))
                 for name in "abcdefg"]
        last = rule("h", "row", "beds", "drop", None, None, (("drop", "rooms", 1),))
        self.assert_tells(([1] * 7 + [0], None), ranks, plan_with((), [*rules, last]))

    def test_cast_plans(self):
        for seed in range(300):
            plan = cast_run(seed)[0]
            with self.subTest(seed=seed):
                pairs = naive_run.sets_off(plan)
                self.assertEqual(sets_off(plan), pairs)
                told, ring = ranks(plan)
                self.assertEqual((told is None), (ring is not None))
                if told is None:
                    self.assertIs(is_ring(plan, ring), True)
                    for rule_, other in zip(ring, ring[1:] + ring[:1]):
                        self.assertIn((rule_, other), pairs)
                    continue
                names = [one[0] for one in plan[2]]
                for name, rank in zip(names, told):
                    below = [told[names.index(other)] for one, other in pairs if one == name]
                    self.assertEqual(rank, max(below, default=-1) + 1)

    def test_cast_kinds(self):
        for seed in range(100):
            plan = cast_run(seed)[0]
            for table, columns in plan[0]:
                kinds = [(table, "put", None), (table, "drop", None)]
                for kind in kinds + [(table, "set", column) for column, _ in columns]:
                    with self.subTest(seed=seed, kind=kind):
                        told = may_bring(plan, *kind)
                        self.assertEqual(set(told), naive_run.may_bring(plan, kind))
                        self.assertEqual(told, in_order(plan, told))


def in_order(plan, kinds):
    every = [(table, kind, None) for table, _ in plan[0] for kind in ("put", "drop")]
    for table, columns in plan[0]:
        at = every.index((table, "drop", None)) + 1
        every[at:at] = [(table, "set", column) for column, _ in columns]
    return [kind for kind in every if kind in kinds]


class IsRanksTest(Asking):
    PLAN = chain(("b", "rooms", ("beds",)), ("a", "beds", ("age",)), ("c", "keys", ("age",)))

    def assert_ranks(self, answer, thing, plan=PLAN):
        self.assert_answers(answer, is_ranks, plan, thing)

    def test_the_least_ones_and_greater_ones(self):
        for thing in ([1, 0, 0], [2, 1, 0], [2, 0, 7], [10 ** 30, 10 ** 29, 0], [1, 0, 99]):
            self.assert_ranks(True, thing)
        self.assertIs(is_ranks(plan=self.PLAN, thing=[1, 0, 0]), True)

    def test_what_is_set_off_has_a_lesser_one(self):
        for thing in ([0, 0, 0], [1, 1, 0], [0, 1, 0], [5, 6, 7]):
            self.assert_ranks(False, thing)

    def test_from_0_on(self):
        for thing in ([1, 0, -1], [1, -1, 0], [-1, -2, 0], [0, -1, 0]):
            self.assert_ranks(False, thing)

    def test_one_a_rule(self):
        for thing in ([], [1], [1, 0], [1, 0, 0, 0], [2, 1, 0, 0, 0]):
            self.assert_ranks(False, thing)

    def test_without_rules(self):
        self.assert_ranks(True, [], plan_of())
        for thing in ((), [0], None, "", 0, False, [[]]):
            self.assert_ranks(False, thing, plan_of())

    def test_things_of_other_kinds(self):
        for thing in ((1, 0, 0), ([1, 0, 0], None), [[1, 0, 0]], [(1, 0, 0)], "100", 100, 1, True):
            self.assert_ranks(False, thing)
        for thing in NO_TUPLES:
            self.assert_ranks(False, thing)

    def test_numbers_alone(self):
        for place in places([2, 1, 0])[1:]:
            for part in (None, True, False, "", "0", "2", "a", (), [], (2,), [1], (None,), [[0]]):
                self.assert_ranks(False, spoiled([2, 1, 0], place, part))

    def test_none_where_there_is_a_ring(self):
        for thing in ([0], [1], [7], [-1], []):
            self.assert_ranks(False, thing, chain(("z", "age", ("age",))))
        plan = chain(("b", "age", ("beds",)), ("a", "beds", ("age",)))
        for one in range(3):
            for other in range(3):
                self.assert_ranks(False, [one, other], plan)


class IsRingTest(Asking):
    PLAN = chain(
        ("a", "rooms", ("beds", "age")), ("b", "beds", ("keys", "beds")), ("c", "keys", ("rooms",)),
        ("d", "age", ("rooms",)))

    def assert_ring(self, answer, thing, plan=PLAN):
        self.assert_answers(answer, is_ring, plan, thing)

    def test_rings(self):
        for thing in (["b"], ["a", "d"], ["d", "a"], ["a", "b", "c"], ["b", "c", "a"], ["c", "a", "b"]):
            self.assert_ring(True, thing)
        self.assertIs(is_ring(plan=self.PLAN, thing=["b"]), True)

    def test_each_sets_off_the_next_one(self):
        for thing in (["a"], ["c"], ["d"], ["a", "b"], ["b", "a"], ["a", "c"], ["c", "b", "a"],
                      ["a", "c", "b"], ["a", "b", "c", "d"], ["b", "c"], ["c", "a"]):
            self.assert_ring(False, thing)

    def test_none_twice(self):
        for thing in (["b", "b"], ["a", "d", "a", "d"], ["a", "b", "b", "c"], ["a", "d", "a", "b", "c"]):
            self.assert_ring(False, thing)

    def test_one_at_least(self):
        self.assert_ring(False, [])
        self.assert_ring(False, [], plan_of())

    def test_none_that_is_not_there(self):
        for thing in (["z"], ["a", "z"], ["b", "z"], [""], ["b "], ["B"], ["bb"]):
            self.assert_ring(False, thing)

    def test_things_of_other_kinds(self):
        for thing in ("b", ("b",), ["ad"], [["b"]], [("b",)], ("a", "d"), (None, ["b"]), "abc"):
            self.assert_ring(False, thing)
        for thing in NO_TUPLES:
            self.assert_ring(False, thing)

    def test_spoiled_at_any_place(self):
        self.assert_only(["b"], is_ring, self.PLAN)
        right = ["a", "b", "c"]
        for place in places(right)[1:]:
            for part in (None, True, False, 0, 1, "", "d", "z", (), [], ("a",), ["b"], [["c"]]):
                self.assert_ring(False, spoiled(right, place, part))

    def test_where_there_are_ranks(self):
        plan = chain(("a", "rooms", ("beds",)), ("b", "beds", ("age",)))
        for thing in (["a"], ["b"], ["a", "b"], ["b", "a"]):
            self.assert_ring(False, thing, plan)
