from tests import naive
from tests.dice import cast
from tests.house import plan_of, tie
from tests.parts import (
    NO_TUPLES, Asking, listed, part_at, places, spoiled, tuple_places, tupled,
    with_list_at, with_part_fewer, with_part_more)
from tiedtables.carrying import brought
from tiedtables.deeds import own_part
from tiedtables.errors import NoRow, TableError, Taken
from tiedtables.ways import parting, shows_brought, shows_way, way_to

# A drop of room 1 takes beds 4 and 5, these 6, and the ages that lean on them lose it.
GOING = plan_of(
    tie("in", "beds", "room", "rooms", "carry"),
    tie("by", "beds", "next", "beds", "carry"),
    tie("of", "age", "bed", "beds", "empty"),
)
FULL = [
    [(1, 0), (2, 0)],
    [(4, 1, None, None), (5, 1, 4, None), (6, 2, 5, None), (7, 2, None, None)],
    [],
    [(1, 5), (2, 6), (3, 7)],
]
DROP = ("drop", "rooms", 1)
# A key of rooms that is set goes on by the keys of keys and of age.
TURNING = plan_of(
    tie("kr", "keys", "room", "rooms", "bar", "carry"),
    tie("ak", "age", "id", "keys", "bar", "carry"),
    tie("ra", "rooms", "id", "age", "bar", "carry"),
    tie("hold", "keys", "held", "age", "bar", "empty"),
    tie("in", "beds", "room", "keys", "bar", "fallback"),
)
ROUND = [[(1, 0)], [(3, 1, 0, 0)], [(1, 1), (2, 1)], [(1, 0)]]
SET = ("set", "rooms", 1, "id", 9)


class WayToTest(Asking):
    def assert_way(self, answer, plan, content, deed, *at):
        self.assert_tells(answer, way_to, plan, content, deed, *at)

    def test_what_the_deed_does_by_itself(self):
        self.assert_way([], GOING, FULL, DROP, "rooms", 1)
        self.assert_way([], TURNING, ROUND, SET, "rooms", 1, "id")
        self.assert_way([], GOING, FULL, ("set", "beds", 4, "room", None), "beds", 4, "room")

    def test_rows_that_go(self):
        self.assert_way([("in", 4)], GOING, FULL, DROP, "beds", 4)
        self.assert_way([("in", 5)], GOING, FULL, DROP, "beds", 5)
        self.assert_way([("in", 5), ("by", 6)], GOING, FULL, DROP, "beds", 6)

    def test_cells_of_rows_that_lean_on_gone_ones(self):
        self.assert_way([("in", 5), ("of", 1)], GOING, FULL, DROP, "age", 1, "bed")
        answer = [("in", 5), ("by", 6), ("of", 2)]
        self.assert_way(answer, GOING, FULL, DROP, "age", 2, "bed")

    def test_cells_of_rows_that_lean_on_turned_ones(self):
        self.assert_way([("kr", 1)], TURNING, ROUND, SET, "keys", 1, "room")
        self.assert_way([("kr", 1), ("ak", 1)], TURNING, ROUND, SET, "age", 1, "id")
        answer = [("kr", 1), ("ak", 1), ("hold", 2)]
        self.assert_way(answer, TURNING, ROUND, SET, "keys", 2, "held")
        self.assert_way([("kr", 1), ("in", 3)], TURNING, ROUND, SET, "beds", 3, "room")

    def test_by_names(self):
        told = way_to(plan=GOING, content=FULL, deed=DROP, table="age", key=1, column="bed")
        self.assert_way(told, GOING, FULL, DROP, "age", 1, "bed")
        told = way_to(plan=GOING, content=FULL, deed=DROP, table="beds", key=4)
        self.assertEqual(told, [("in", 4)])
        self.assert_tells([("in", 4)], way_to, GOING, FULL, DROP, "beds", 4, None)

    def test_none(self):
        for at in (("rooms", 2), ("beds", 7), ("age", 1), ("keys", 1), ("rooms", 9)):
            self.assert_way(None, GOING, FULL, DROP, *at)
        for at in (("rooms", 1, "id"), ("beds", 4, "room"), ("beds", 6, "next"),
                   ("age", 3, "bed"), ("age", 1, "id"), ("age", 9, "bed")):
            self.assert_way(None, GOING, FULL, DROP, *at)
        for at in (("rooms", 1), ("keys", 1), ("keys", 2, "room"), ("rooms", 1, "size")):
            self.assert_way(None, TURNING, ROUND, SET, *at)

    def test_deeds_that_do_nothing(self):
        for deed in (("set", "rooms", 1, "id", 1), ("shift", "rooms", "id", 0),
                     ("sweep", "rooms", "size", 5), ("put", "rooms", (8, 8))):
            self.assert_way(None, TURNING, ROUND, deed, "rooms", 1, "id")
            self.assert_way(None, TURNING, ROUND, deed, "rooms", 8)

    def test_the_shortest_where_rows_go_by_the_deed_too(self):
        content = [[], [(1, 5, 1, None), (2, 5, 1, None), (3, 6, 2, None)], [], []]
        deed = ("sweep", "beds", "room", 5)
        for key, answer in ((1, []), (2, []), (3, [("by", 3)])):
            self.assert_way(answer, GOING, content, deed, "beds", key)

    def test_a_cell_brought_to_its_own_worth_alone(self):
        plan = plan_of(tie("a", "beds", "next", "rooms", "fallback", "fallback"))
        content = [[(7, 0)], [(1, None, 7, None)], [], []]
        for deed in (("drop", "rooms", 7), ("set", "rooms", 7, "id", 8)):
            self.assert_way([("a", 1)], plan, content, deed, "beds", 1, "next")

    def test_where_bars_and_parts_refuse(self):
        plan = plan_of(
            tie("a", "beds", "room", "rooms", "carry"),
            tie("b", "beds", "next", "rooms", "bar"),
            tie("c", "age", "bed", "beds", "empty"),
            tie("d", "age", "bed", "beds", "fallback"),
        )
        content = [[(1, 0)], [(4, 1, 0, None), (5, 0, 1, None)], [], [(6, 4)]]
        self.assertRaises(TableError, brought, plan, content, DROP)
        self.assert_way([("a", 4)], plan, content, DROP, "beds", 4)
        told = way_to(plan, content, DROP, "age", 6, "bed")
        self.assertIn(told, ([("a", 4), ("c", 6)], [("a", 4), ("d", 6)]))

    def test_refused_as_own_part(self):
        fields = {"table": "rooms", "key": 3}
        for deed in (("drop", "rooms", 3), ("set", "rooms", 3, "id", 1)):
            self.assert_refused(NoRow, fields, way_to, GOING, FULL, deed, "rooms", 3)
        fields = {"table": "rooms", "key": 1}
        deed = ("put", "rooms", (1, 1))
        self.assert_refused(Taken, fields, way_to, GOING, FULL, deed, "rooms", 1)

    def test_sixty_rows_one_on_the_other(self):
        beds = [(at, None, at - 1 if at else None, None) for at in range(60)]
        content = [[], beds, [], []]
        way = [("by", at) for at in range(1, 60)]
        deed = ("drop", "beds", 0)
        self.assert_way(way, GOING, content, deed, "beds", 59)
        self.assert_answers(True, shows_way, GOING, content, deed, "beds", 59, None, None, way)
        for at in range(59):
            cut = way[:at] + way[at + 1:]
            self.assertIs(shows_way(GOING, content, deed, "beds", 59, None, None, cut), False)

    def test_rows_that_lean_round(self):
        beds = [(at, None, (at - 1) % 60, None) for at in range(60)]
        content = [[], beds, [], []]
        deed = ("drop", "beds", 31)
        way = [("by", (31 + at) % 60) for at in range(1, 60)]
        self.assert_way(way, GOING, content, deed, "beds", 30)
        # Once round and to the row that the deed drops itself.
        around = way + [("by", 31)]
        self.assert_answers(True, shows_way, GOING, content, deed, "beds", 31, None, 0, around)
        twice = around + [("by", 32)]
        self.assert_answers(False, shows_way, GOING, content, deed, "beds", 32, None, 0, twice)


class PartingTest(Asking):
    def assert_parting(self, table, key, column, worths, plan, content, deed):
        """Two ways, each to one of the worths and these unlike."""
        told = parting(plan, content, deed)
        self.assertIs(type(told), tuple)
        self.assertEqual(told[:3], (table, key, column))
        self.assert_tells(told, parting, plan, content, deed)
        reached = []
        for way in told[3:]:
            reached.append([worth for worth in worths if shows_way(
                plan, content, deed, table, key, column, worth, way)])
            self.assertEqual(len(reached[-1]), 1)
        self.assertEqual(len(reached), 2)
        self.assertNotEqual(*reached)

    def test_nothing_parted(self):
        self.assert_tells(None, parting, GOING, FULL, DROP)
        self.assert_tells(None, parting, TURNING, ROUND, SET)
        self.assertIsNone(parting(plan=GOING, content=FULL, deed=DROP))

    def test_by_two_ties(self):
        plan = plan_of(tie("c", "age", "bed", "beds", "empty", "carry"),
                       tie("d", "age", "bed", "beds", "fallback", "fallback"))
        content = [[], [(4, 1, 0, None)], [], [(6, 4), (7, 4), (8, 5)]]
        self.assert_parting("age", 6, "bed", (None, 0), plan, content, ("drop", "beds", 4))
        deed = ("set", "beds", 4, "id", 3)
        self.assert_parting("age", 6, "bed", (0, 3), plan, content, deed)

    def test_the_first_of_parts(self):
        plan = plan_of(
            tie("a", "age", "bed", "rooms", "empty"),
            tie("b", "age", "bed", "rooms", "fallback"),
            tie("c", "beds", "next", "rooms", "empty"),
            tie("d", "beds", "next", "rooms", "fallback"),
            tie("e", "beds", "back", "rooms", "empty"),
        )
        content = [[(1, 0)], [(3, 0, 0, 1), (4, 0, 1, 0), (5, 0, 1, 1)], [], [(1, 1)]]
        self.assert_parting("beds", 4, "next", (None, 7), plan, content, DROP)

    def test_to_its_own_worth_and_another(self):
        plan = plan_of(tie("c", "beds", "next", "rooms", "empty"),
                       tie("d", "beds", "next", "rooms", "fallback"))
        content = [[(7, 0)], [(1, None, 7, None)], [], []]
        self.assert_parting("beds", 1, "next", (None, 7), plan, content, ("drop", "rooms", 7))

    def test_by_ways_of_unlike_lengths(self):
        plan = plan_of(
            tie("a", "keys", "room", "rooms", "carry", "carry"),
            tie("b", "age", "id", "keys", "carry", "carry"),
            tie("c", "beds", "room", "rooms", "empty", "empty"),
            tie("d", "beds", "room", "age", "fallback", "carry"),
        )
        content = [[(1, 0)], [(3, 1, 0, 0)], [(1, 0)], [(1, 0)]]
        self.assert_parting("beds", 3, "room", (None, -1), plan, content, DROP)
        self.assert_parting("beds", 3, "room", (None, 9), plan, content, SET)

    def test_where_bars_refuse(self):
        plan = plan_of(
            tie("x", "keys", "held", "beds", "bar"),
            tie("c", "age", "bed", "beds", "empty"),
            tie("d", "age", "bed", "beds", "fallback"),
        )
        content = [[], [(4, 1, 0, None)], [(2, 4)], [(6, 4)]]
        self.assert_parting("age", 6, "bed", (None, 0), plan, content, ("drop", "beds", 4))

    def test_refused_as_own_part(self):
        fields = {"table": "beds", "key": 9}
        self.assert_refused(NoRow, fields, parting, GOING, FULL, ("drop", "beds", 9))
        fields = {"table": "beds", "key": 4}
        deed = ("put", "beds", (4, 1, 1, 1))
        self.assert_refused(Taken, fields, parting, GOING, FULL, deed)


class ShowsWayTest(Asking):
    def assert_shown(self, answer, at, thing, plan=GOING, content=FULL, deed=DROP):
        self.assert_answers(answer, shows_way, plan, content, deed, *at, thing)

    def test_rows_that_go_whatever_the_worth(self):
        for worth in (None, 0, 7, 10 ** 12):
            self.assert_shown(True, ("rooms", 1, None, worth), [])
            self.assert_shown(True, ("beds", 6, None, worth), [("in", 5), ("by", 6)])
            self.assert_shown(False, ("beds", 6, None, worth), [("by", 6)])
            self.assert_shown(False, ("beds", 7, None, worth), [])

    def test_by_names(self):
        told = shows_way(plan=GOING, content=FULL, deed=DROP, table="beds", key=4,
                         column=None, worth=None, thing=[("in", 4)])
        self.assertIs(told, True)

    def test_longer_ways(self):
        self.assert_shown(True, ("beds", 5, None, 0), [("in", 5)])
        self.assert_shown(True, ("beds", 5, None, 0), [("in", 4), ("by", 5)])
        self.assert_shown(True, ("beds", 6, None, 0), [("in", 4), ("by", 5), ("by", 6)])
        way = [("in", 4), ("by", 5), ("of", 1)]
        self.assert_shown(True, ("age", 1, "bed", None), way)

    def test_the_worth_of_a_cell(self):
        way = [("in", 5), ("of", 1)]
        self.assert_shown(True, ("age", 1, "bed", None), way)
        for worth in (0, 5, 1):
            self.assert_shown(False, ("age", 1, "bed", worth), way)
        deed = ("set", "beds", 4, "room", 8)
        self.assert_shown(True, ("beds", 4, "room", 8), [], deed=deed)
        self.assert_shown(False, ("beds", 4, "room", 1), [], deed=deed)
        self.assert_shown(False, ("beds", 4, "room", None), [], deed=deed)

    def test_the_worth_that_this_very_way_makes(self):
        plan = plan_of(tie("c", "age", "bed", "beds", "empty", "carry"),
                       tie("d", "age", "bed", "beds", "fallback", "fallback"))
        content = [[], [(4, 1, 0, None)], [], [(6, 4)]]
        turn = ("set", "beds", 4, "id", 3)
        for deed, made in ((("drop", "beds", 4), {"c": None, "d": 0}), (turn, {"c": 3, "d": 0})):
            for name in "cd":
                for worth in (None, 0, 3, 4):
                    at = ("age", 6, "bed", worth)
                    right = made[name] == worth
                    self.assert_shown(right, at, [(name, 6)], plan, content, deed)

    def test_other_rows_cells_and_ends(self):
        way = [("in", 5), ("of", 1)]
        for at in (("age", 2, "bed", None), ("age", 1, "id", None), ("age", 1, None, None),
                   ("beds", 1, "room", None), ("beds", 5, None, None), ("beds", 5, "room", None)):
            self.assert_shown(False, at, way)
        for thing in (way[:1], way[1:], way[::-1], way + way, way + [("of", 2)], []):
            self.assert_shown(False, ("age", 1, "bed", None), thing)

    def test_a_row_on_the_way_that_does_not_go(self):
        plan = plan_of(
            tie("in", "beds", "room", "rooms", "empty"),
            tie("also", "beds", "room", "rooms", "look"),
            tie("by", "beds", "next", "beds", "carry"),
        )
        for first in ("in", "also"):
            self.assert_shown(False, ("beds", 5, None, 0), [(first, 4), ("by", 5)], plan)
            self.assert_shown(False, ("beds", 4, None, 0), [(first, 4)], plan)
        self.assert_shown(True, ("beds", 4, "room", None), [("in", 4)], plan)

    def test_no_cell_of_a_row_that_goes(self):
        plan = plan_of(
            tie("in", "beds", "room", "rooms", "carry"),
            tie("out", "beds", "room", "rooms", "empty"),
        )
        self.assert_shown(True, ("beds", 4, None, None), [("in", 4)], plan)
        self.assert_shown(False, ("beds", 4, "room", None), [("out", 4)], plan)
        self.assert_shown(False, ("beds", 4, "room", None), [("in", 4)], plan)

    def test_ways_by_keys(self):
        way = [("kr", 1), ("ak", 1), ("hold", 2)]
        self.assert_shown(True, ("keys", 2, "held", None), way, TURNING, ROUND, SET)
        around = [("kr", 1), ("ak", 1), ("ra", 1)]
        self.assert_shown(True, ("rooms", 1, "id", 9), around, TURNING, ROUND, SET)
        self.assert_shown(False, ("rooms", 1, "id", 1), around, TURNING, ROUND, SET)
        self.assert_shown(False, ("rooms", 1, None, 9), around, TURNING, ROUND, SET)
        more = around + [("kr", 1)]
        self.assert_shown(False, ("keys", 1, "room", 9), more, TURNING, ROUND, SET)

    def test_a_turned_row_by_a_tie_of_another_column(self):
        plan = plan_of(
            tie("key", "keys", "room", "rooms", "look", "carry"),
            tie("cell", "keys", "held", "rooms", "look", "carry"),
            tie("in", "beds", "room", "keys", "look", "carry"),
        )
        content = [[(1, 0)], [(3, 1, 0, 0)], [(1, 1)], []]
        at = ("beds", 3, "room", 9)
        self.assert_shown(True, at, [("key", 1), ("in", 3)], plan, content, SET)
        self.assert_shown(False, at, [("cell", 1), ("in", 3)], plan, content, SET)
        self.assert_shown(True, ("keys", 1, "held", 9), [("cell", 1)], plan, content, SET)

    def test_a_row_that_leans_on_itself(self):
        plan = plan_of(tie("a", "beds", "next", "beds", "carry", "carry"),
                       tie("b", "beds", "back", "beds", "carry", "look"))
        content = [[], [(4, 0, 4, 4)], [], []]
        deed = ("drop", "beds", 4)
        for way in ([], [("a", 4)], [("b", 4)], [("a", 4), ("b", 4)], [("b", 4), ("a", 4)]):
            self.assert_shown(True, ("beds", 4, None, 0), way, plan, content, deed)
        for way in ([("a", 4)] * 2, [("a", 4), ("b", 4), ("a", 4)]):
            self.assert_shown(False, ("beds", 4, None, 0), way, plan, content, deed)
        deed = ("set", "beds", 4, "id", 5)
        self.assert_shown(True, ("beds", 4, "next", 5), [("a", 4)], plan, content, deed)
        self.assert_shown(False, ("beds", 4, "id", 5), [("a", 4)], plan, content, deed)

    def test_spoiled_at_any_place(self):
        at, way = ("age", 2, "bed", None), [("in", 5), ("by", 6), ("of", 2)]
        self.assert_shown(True, at, way)
        for place in places(way):
            part = part_at(way, place)
            for thing in NO_TUPLES + (True, False, 1, 2, 3, 10 ** 12, "in", "of", "of "):
                self.assert_shown(thing == part, at, spoiled(way, place, thing))
            self.assert_shown(False, at, spoiled(way, place, (part,)))
            self.assert_shown(False, at, spoiled(way, place, [part]))
        for place in tuple_places(way):
            self.assert_shown(False, at, with_list_at(way, place))
            self.assert_shown(False, at, with_part_fewer(way, place))
            for thing in NO_TUPLES:
                self.assert_shown(False, at, with_part_more(way, place, thing))
        self.assert_shown(False, at, tupled(way))
        self.assert_shown(False, at, listed(way))

    def test_true_is_no_key(self):
        way = [("in", 5), ("of", 1)]
        self.assert_shown(True, ("age", 1, "bed", None), way)
        self.assert_shown(False, ("age", 1, "bed", None), spoiled(way, (1, 1), True))

    def test_things_that_are_no_lists(self):
        for thing in NO_TUPLES + ((),):
            right = thing == [] and isinstance(thing, list)
            self.assert_shown(right, ("rooms", 1, None, None), thing)
            self.assert_shown(False, ("beds", 4, None, None), thing)
        self.assert_shown(False, ("beds", 4, None, None), [("in", 4)] * 1400)
        self.assert_shown(False, ("beds", 4, None, None), [[[[[[[[]]]]]]]])

    def test_where_bars_and_parts_refuse(self):
        plan = plan_of(
            tie("a", "beds", "room", "rooms", "carry"),
            tie("b", "beds", "next", "rooms", "bar"),
            tie("c", "age", "bed", "beds", "empty"),
            tie("d", "age", "bed", "beds", "fallback"),
        )
        content = [[(1, 0)], [(4, 1, 0, None), (5, 0, 1, None)], [], [(6, 4)]]
        self.assert_shown(True, ("age", 6, "bed", None), [("a", 4), ("c", 6)], plan, content)
        self.assert_shown(True, ("age", 6, "bed", 0), [("a", 4), ("d", 6)], plan, content)
        self.assert_shown(False, ("beds", 5, None, 0), [("b", 5)], plan, content)

    def test_refused_as_own_part(self):
        fields = {"table": "rooms", "key": 3}
        for thing in ([], [("in", 4)], None):
            given = (GOING, FULL, ("drop", "rooms", 3), "rooms", 3, None, None, thing)
            self.assert_refused(NoRow, fields, shows_way, *given)
        fields = {"table": "rooms", "key": 1}
        given = (GOING, FULL, ("put", "rooms", (1, 1)), "rooms", 1, None, None, [])
        self.assert_refused(Taken, fields, shows_way, *given)


class ShowsBroughtTest(Asking):
    TOLD = (
        [("rooms", 1), ("beds", 4), ("beds", 5), ("beds", 6)],
        [("age", 1, "bed", None), ("age", 2, "bed", None)],
    )

    def assert_shown(self, answer, thing, plan=GOING, content=FULL, deed=DROP):
        self.assert_answers(answer, shows_brought, plan, content, deed, thing)

    def test_what_brought_tells(self):
        self.assertEqual(brought(GOING, FULL, DROP), self.TOLD)
        self.assert_shown(True, self.TOLD)
        told = shows_brought(plan=GOING, content=FULL, deed=DROP, thing=self.TOLD)
        self.assertIs(told, True)
        self.assert_shown(True, brought(TURNING, ROUND, SET), TURNING, ROUND, SET)

    def test_nothing_at_all(self):
        deed = ("shift", "rooms", "id", 0)
        self.assert_shown(True, ([], []), deed=deed)
        for thing in (((), ()), [[], []], ([],), ([], [], []), (None, None), None, False, []):
            self.assert_shown(False, thing, deed=deed)

    def test_spoiled_at_any_place(self):
        for place in places(self.TOLD):
            part = part_at(self.TOLD, place)
            for thing in NO_TUPLES + (True, False, 1, 2, "age", "beds", 10 ** 12):
                right = repr(thing) == repr(part)
                self.assert_shown(right, spoiled(self.TOLD, place, thing))
            self.assert_shown(False, spoiled(self.TOLD, place, (part,)))
            self.assert_shown(False, spoiled(self.TOLD, place, [part]))
            if isinstance(part, tuple):
                self.assert_shown(False, with_list_at(self.TOLD, place))
            if isinstance(part, list):
                self.assert_shown(False, spoiled(self.TOLD, place, tuple(part)))
            if isinstance(part, (list, tuple)):
                self.spoiled_in_length(place, part)

    def spoiled_in_length(self, place, part):
        for at in range(len(part)):
            fewer, twice = part[:at] + part[at + 1:], part[:at + 1] + part[at:]
            self.assert_shown(False, spoiled(self.TOLD, place, fewer))
            self.assert_shown(False, spoiled(self.TOLD, place, twice))
            exchanged = fewer[:1] + part[at:at + 1] + fewer[1:]
            right = exchanged == part
            self.assert_shown(right, spoiled(self.TOLD, place, exchanged))

    def test_true_is_no_key(self):
        self.assert_shown(False, spoiled(self.TOLD, (0, 0, 1), True))
        self.assert_shown(False, spoiled(self.TOLD, (1, 0, 1), True))

    def test_where_brought_is_refused(self):
        bar = plan_of(tie("a", "beds", "room", "rooms", "bar"))
        part = plan_of(tie("a", "beds", "room", "rooms", "empty"),
                       tie("b", "beds", "room", "rooms", "fallback"))
        gone = [("rooms", 1)]
        for plan in (bar, part):
            for thing in ((gone, []), ([], []), None, (gone, [("beds", 4, "room", None)])):
                self.assert_shown(False, thing, plan)
        for deed in (("drop", "rooms", 9), ("put", "rooms", (1, 1)), ("set", "rooms", 9, "id", 1)):
            for thing in (([("rooms", 9)], []), ([], []), None, False):
                self.assert_shown(False, thing, deed=deed)

    def test_things_deep_and_long(self):
        self.assert_shown(False, ([[[[[[[]]]]]]], []))
        self.assert_shown(False, ([("rooms", 1)] * 900, []))


class NaiveTest(Asking):
    """Against all the short ways that are there, gone one pair at a time."""

    def test_cast_plans(self):
        many = 0
        for seed in range(1200):
            plan, content, deed = cast(seed)
            try:
                own_part(plan[0], content, deed)
            except TableError:
                continue
            with self.subTest(seed=seed):
                many += self.compared(plan, content, deed)
        self.assertGreater(many, 2000)

    def compared(self, plan, content, deed):
        """How many ways there were."""
        ways = naive.ways(plan, content, deed, 4)
        shortest = {}
        for way, aim in ways:
            shortest.setdefault(aim[:3], len(way))
        for table, key in naive.all_rows(plan, content):
            for column in [None] + naive.columns_of(plan, table):
                at = (table, key) if column is None else (table, key, column)
                told = way_to(plan, content, deed, table, key, column)
                if at in shortest:
                    self.assertEqual(len(told), shortest[at])
                # A way that is told is one, be it longer than those looked at.
                if told is not None:
                    self.assertTrue(self.is_shown(plan, content, deed, at, told))
                else:
                    self.assertNotIn(at, shortest)
        self.compared_ways(plan, content, deed, ways)
        return len(ways)

    def is_shown(self, plan, content, deed, at, way):
        if len(at) == 2:
            return shows_way(plan, content, deed, *at, None, None, way)
        cells = naive.spread(plan, content, deed)[1]
        worths = {cell[3] for cell in cells if cell[:3] == at}
        return any(shows_way(plan, content, deed, *at, worth, way) for worth in worths)

    def compared_ways(self, plan, content, deed, ways):
        aims = sorted({aim for _, aim in ways}, key=repr)[:8]
        for way, _ in ways[:20]:
            for aim in aims:
                told = aim if len(aim) == 4 else (*aim, None, None)
                right = (way, aim) in ways
                self.assertIs(shows_way(plan, content, deed, *told, way), right)
