from tests import naive
from tests.dice import cast
from tests.house import TABLES, plan_of, tie
from tests.parts import A_BILLION, Asking
from tiedtables.carrying import bars, brought, carried, parts
from tiedtables.contents import changed, is_content
from tiedtables.deeds import is_deed, own_part
from tiedtables.errors import Barred, Loose, NoRow, Parted, TableError, Taken
from tiedtables.plans import is_tables
from tiedtables.ties import is_ties


class Carrying(Asking):
    def assert_brought(self, answer, plan, content, deed):
        self.assert_tells(answer, brought, plan, content, deed)
        self.assert_tells([], bars, plan, content, deed)
        self.assert_tells([], parts, plan, content, deed)

    def assert_barred(self, pairs, plan, content, deed):
        self.assert_tells(pairs, bars, plan, content, deed)
        fields = {"tie": pairs[0][0], "key": pairs[0][1]}
        self.assert_refused(Barred, fields, brought, plan, content, deed)
        self.assert_refused(Barred, fields, carried, plan, content, deed)

    def assert_parted(self, cells, plan, content, deed):
        self.assert_tells(cells, parts, plan, content, deed)
        fields = dict(zip(("table", "key", "column"), cells[0]))
        self.assert_refused(Parted, fields, brought, plan, content, deed)
        self.assert_refused(Parted, fields, carried, plan, content, deed)


class GoneTest(Carrying):
    CONTENT = [
        [(1, 0), (2, 0), (3, 0)],
        [(4, 1, 4, None), (5, 1, None, None), (6, 2, 4, None), (7, None, 6, 1)],
        [(1, 4), (2, 7)],
        [(8, 6), (9, 7)],
    ]

    def assert_of(self, ties, deed, gone, cells):
        self.assert_brought((gone, cells), plan_of(*ties), self.CONTENT, deed)

    def test_without_ties(self):
        self.assert_of((), ("drop", "rooms", 1), [("rooms", 1)], [])
        self.assert_of((), ("put", "rooms", (9, 9)), [], [])
        self.assert_of((), ("set", "rooms", 1, "id", 9), [], [("rooms", 1, "id", 9)])

    def test_look(self):
        ties = (tie("a", "beds", "room", "rooms", "look", "carry"),)
        self.assert_of(ties, ("drop", "rooms", 1), [("rooms", 1)], [])

    def test_carry(self):
        ties = (tie("a", "beds", "room", "rooms", "carry"),)
        gone = [("rooms", 1), ("beds", 4), ("beds", 5)]
        self.assert_of(ties, ("drop", "rooms", 1), gone, [])

    def test_carry_on_and_on(self):
        ties = (
            tie("c", "age", "bed", "beds", "carry"),
            tie("b", "beds", "next", "beds", "carry"),
            tie("a", "beds", "room", "rooms", "carry"),
        )
        gone = [("rooms", 1), ("beds", 4), ("beds", 5), ("beds", 6), ("beds", 7)]
        gone += [("age", 8), ("age", 9)]
        self.assert_of(ties, ("drop", "rooms", 1), gone, [])

    def test_empty(self):
        ties = (tie("a", "beds", "room", "rooms", "empty"),)
        cells = [("beds", 4, "room", None), ("beds", 5, "room", None)]
        self.assert_of(ties, ("drop", "rooms", 1), [("rooms", 1)], cells)

    def test_fallback(self):
        ties = (tie("a", "beds", "room", "rooms", "fallback"),)
        cells = [("beds", 4, "room", -1), ("beds", 5, "room", -1)]
        self.assert_of(ties, ("drop", "rooms", 1), [("rooms", 1)], cells)

    def test_a_fallback_of_nothing(self):
        ties = (tie("a", "beds", "back", "rooms", "fallback"),)
        self.assert_of(ties, ("drop", "rooms", 1), [("rooms", 1)], [("beds", 7, "back", None)])

    def test_a_row_that_goes_has_no_cells(self):
        ties = (
            tie("a", "beds", "room", "rooms", "carry"),
            tie("b", "beds", "next", "beds", "empty"),
        )
        gone = [("rooms", 1), ("beds", 4), ("beds", 5)]
        self.assert_of(ties, ("drop", "rooms", 1), gone, [("beds", 6, "next", None)])

    def test_a_sweep(self):
        ties = (tie("a", "beds", "room", "rooms", "fallback"),)
        gone = [("rooms", 1), ("rooms", 2), ("rooms", 3)]
        cells = [("beds", key, "room", -1) for key in (4, 5, 6)]
        self.assert_of(ties, ("sweep", "rooms", "size", 0), gone, cells)
        self.assert_of(ties, ("sweep", "rooms", "size", 1), [], [])

    def test_nobody_leans_on_nothing(self):
        ties = (tie("a", "beds", "next", "beds", "empty"),)
        self.assert_of(ties, ("drop", "beds", 5), [("beds", 5)], [])

    def test_a_key_that_leans(self):
        ties = (
            tie("a", "keys", "room", "rooms", "carry"),
            tie("b", "beds", "room", "keys", "empty"),
        )
        cells = [("beds", 4, "room", None), ("beds", 5, "room", None)]
        self.assert_of(ties, ("drop", "rooms", 1), [("rooms", 1), ("keys", 1)], cells)

    def test_rows_go_by_the_tables_and_cells_by_their_columns(self):
        ties = (
            tie("a", "age", "bed", "beds", "carry"),
            tie("b", "rooms", "size", "beds", "carry"),
            tie("c", "beds", "back", "beds", "empty"),
            tie("d", "beds", "next", "beds", "empty"),
            tie("e", "keys", "held", "beds", "empty"),
        )
        content = [[(1, 4), (2, 3)], [(3, 0, 4, 4), (4, 0, 0, 0), (5, 0, 1, 4)],
                   [(1, 4)], [(1, 4), (9, 9)]]
        cells = [("beds", 3, "next", None), ("beds", 3, "back", None)]
        cells += [("beds", 5, "back", None), ("keys", 1, "held", None)]
        answer = ([("rooms", 1), ("beds", 4), ("age", 1)], cells)
        self.assert_brought(answer, plan_of(*ties), content, ("drop", "beds", 4))


class TurnedTest(Carrying):
    CONTENT = [
        [(1, 0), (2, 0)],
        [(4, 1, 4, None), (5, 1, None, None), (6, 2, 4, None)],
        [(1, 4), (2, 4)],
        [(1, 1), (2, 6)],
    ]

    def assert_of(self, ties, deed, cells):
        self.assert_brought(([], cells), plan_of(*ties), self.CONTENT, deed)

    def test_each_way(self):
        deed = ("set", "rooms", 1, "id", 9)
        for turned, worth in (("carry", 9), ("empty", None), ("fallback", -1)):
            ties = (tie("a", "beds", "room", "rooms", "look", turned),)
            cells = [("rooms", 1, "id", 9), ("beds", 4, "room", worth), ("beds", 5, "room", worth)]
            self.assert_of(ties, deed, cells)
        ties = (tie("a", "beds", "room", "rooms", "bar", "look"),)
        self.assert_of(ties, deed, [("rooms", 1, "id", 9)])

    def test_another_column_turns_nobody(self):
        ties = (tie("a", "beds", "room", "rooms", "carry", "empty"),)
        self.assert_of(ties, ("set", "rooms", 1, "size", 9), [("rooms", 1, "size", 9)])
        self.assert_of(ties, ("set", "rooms", 1, "id", 1), [])

    def test_a_key_that_leans_goes_on(self):
        ties = (
            tie("a", "keys", "room", "rooms", "bar", "carry"),
            tie("b", "age", "id", "keys", "bar", "carry"),
            tie("c", "beds", "room", "age", "bar", "fallback"),
        )
        cells = [("rooms", 1, "id", 9), ("beds", 4, "room", -1), ("beds", 5, "room", -1)]
        cells += [("keys", 1, "room", 9), ("age", 1, "id", 9)]
        self.assert_of(ties, ("set", "rooms", 1, "id", 9), cells)

    def test_a_column_that_is_no_key_goes_no_further(self):
        ties = (
            tie("a", "beds", "room", "rooms", "look", "carry"),
            tie("b", "age", "bed", "beds", "look", "empty"),
        )
        cells = [("rooms", 2, "id", 9), ("beds", 6, "room", 9)]
        self.assert_of(ties, ("set", "rooms", 2, "id", 9), cells)

    def test_round_and_round(self):
        ties = (
            tie("a", "keys", "room", "rooms", "look", "carry"),
            tie("b", "rooms", "id", "keys", "look", "carry"),
            tie("c", "beds", "room", "keys", "look", "carry"),
        )
        cells = [("rooms", 1, "id", 9), ("beds", 4, "room", 9), ("beds", 5, "room", 9)]
        cells += [("keys", 1, "room", 9)]
        self.assert_of(ties, ("set", "rooms", 1, "id", 9), cells)
        self.assert_of(ties, ("set", "keys", 1, "room", 9), cells)

    def test_a_shift_turns_each_row(self):
        ties = (tie("a", "beds", "room", "rooms", "look", "carry"),)
        cells = [("rooms", 1, "id", 2), ("rooms", 2, "id", 3)]
        cells += [("beds", 4, "room", 2), ("beds", 5, "room", 2), ("beds", 6, "room", 3)]
        self.assert_of(ties, ("shift", "rooms", "id", 1), cells)

    def test_who_leans_is_asked_of_the_content_ahead(self):
        # Bed 4 leans on room 1 alone, though it is told to lean on 2, which is turned.
        ties = (tie("a", "beds", "room", "rooms", "look", "carry"),)
        deed = ("set", "beds", 4, "room", 2)
        self.assert_of(ties, deed, [("beds", 4, "room", 2)])
        deed = ("set", "rooms", 1, "id", 2)
        cells = [("rooms", 1, "id", 2), ("beds", 4, "room", 2), ("beds", 5, "room", 2)]
        self.assert_of(ties, deed, cells)

    def test_a_row_that_leans_on_itself(self):
        ties = (tie("a", "beds", "next", "beds", "look", "carry"),)
        cells = [("beds", 4, "id", 8), ("beds", 4, "next", 8), ("beds", 6, "next", 8)]
        self.assert_of(ties, ("set", "beds", 4, "id", 8), cells)

    def test_a_key_that_leans_on_itself(self):
        ties = (tie("a", "keys", "room", "keys", "carry", "carry"),)
        self.assert_of(ties, ("set", "keys", 1, "room", 8), [("keys", 1, "room", 8)])

    def test_a_row_put_in_leans_on_none_and_none_on_it(self):
        ties = (tie("a", "beds", "next", "beds", "empty", "empty"),)
        content = [[], [(4, None, 9, None)], [], []]
        deed = ("put", "beds", (9, None, 4, None))
        self.assert_brought(([], []), plan_of(*ties), content, deed)


class OwnWorthTest(Carrying):
    def test_by_its_own_worth_alone_a_cell_is_not_changed(self):
        ties = (tie("a", "beds", "next", "rooms", "fallback", "fallback"),)
        content = [[(7, 0)], [(1, None, 7, None)], [], []]
        answer = ([("rooms", 7)], [])
        self.assert_brought(answer, plan_of(*ties), content, ("drop", "rooms", 7))
        answer = ([], [("rooms", 7, "id", 8)])
        self.assert_brought(answer, plan_of(*ties), content, ("set", "rooms", 7, "id", 8))

    def test_by_its_own_and_another_one_it_is_parted(self):
        ties = (
            tie("a", "beds", "next", "rooms", "fallback", "look"),
            tie("b", "beds", "next", "rooms", "empty", "look"),
        )
        content = [[(7, 0)], [(1, None, 7, None)], [], []]
        cells = [("beds", 1, "next", (None, 7))]
        self.assert_parted(cells, plan_of(*ties), content, ("drop", "rooms", 7))


class SeveralTiesTest(Carrying):
    CONTENT = [[(1, 0)], [(3, 1, 0, 1), (4, 1, 0, None), (5, 0, 1, 1)], [(1, 0)], [(1, 1)]]

    def test_two_ways_to_one_worth(self):
        ties = (
            tie("a", "beds", "room", "rooms", "empty"),
            tie("b", "beds", "room", "keys", "empty"),
            tie("c", "keys", "room", "rooms", "carry"),
        )
        gone = [("rooms", 1), ("keys", 1)]
        cells = [("beds", 3, "room", None), ("beds", 4, "room", None)]
        self.assert_brought((gone, cells), plan_of(*ties), self.CONTENT, ("drop", "rooms", 1))

    def test_parted_by_two_tables(self):
        ties = (
            tie("a", "beds", "room", "rooms", "fallback"),
            tie("b", "beds", "room", "keys", "empty"),
            tie("c", "keys", "room", "rooms", "carry"),
        )
        cells = [("beds", 3, "room", (None, -1)), ("beds", 4, "room", (None, -1))]
        self.assert_parted(cells, plan_of(*ties), self.CONTENT, ("drop", "rooms", 1))

    def test_parted_by_a_turn_to_three_worths(self):
        ties = (
            tie("a", "beds", "room", "rooms", "look", "fallback"),
            tie("b", "beds", "room", "rooms", "look", "carry"),
            tie("c", "beds", "room", "rooms", "look", "empty"),
        )
        for key, worths in ((9, (None, -1, 9)), (-9, (None, -9, -1))):
            cells = [("beds", 3, "room", worths), ("beds", 4, "room", worths)]
            deed = ("set", "rooms", 1, "id", key)
            self.assert_parted(cells, plan_of(*ties), self.CONTENT, deed)

    def test_parts_rise_by_tables_keys_and_the_columns_places(self):
        ties = (
            tie("a", "age", "bed", "rooms", "empty"),
            tie("b", "age", "bed", "rooms", "fallback"),
            tie("c", "beds", "back", "rooms", "empty"),
            tie("d", "beds", "next", "rooms", "empty"),
            tie("e", "beds", "next", "rooms", "fallback"),
            tie("f", "beds", "room", "rooms", "fallback"),
            tie("g", "beds", "room", "rooms", "empty"),
        )
        cells = [("beds", 3, "room", (None, -1)), ("beds", 4, "room", (None, -1))]
        cells += [("beds", 5, "next", (None, 7)), ("age", 1, "bed", (None, 0))]
        self.assert_parted(cells, plan_of(*ties), self.CONTENT, ("drop", "rooms", 1))

    def test_a_cell_of_the_deed_itself_and_a_tie(self):
        # The row leans on itself by a column that is a key's: both come to one worth.
        ties = (
            tie("a", "keys", "room", "keys", "look", "carry"),
            tie("b", "keys", "room", "rooms", "look", "carry"),
            tie("c", "rooms", "id", "keys", "look", "carry"),
        )
        cells = [("rooms", 1, "id", 5), ("keys", 1, "room", 5)]
        deed = ("set", "keys", 1, "room", 5)
        self.assert_brought(([], cells), plan_of(*ties), self.CONTENT, deed)

    def test_a_row_that_goes_is_parted_in_no_cell(self):
        ties = (
            tie("a", "beds", "room", "rooms", "empty"),
            tie("b", "beds", "room", "rooms", "fallback"),
            tie("c", "beds", "back", "rooms", "carry"),
            tie("d", "beds", "next", "beds", "look", "look"),
        )
        gone = [("rooms", 1), ("beds", 3), ("beds", 5)]
        cells = [("beds", 4, "room", (None, -1))]
        plan = plan_of(*ties)
        self.assert_parted(cells, plan, self.CONTENT, ("drop", "rooms", 1))
        content = [[(1, 0)], [self.CONTENT[1][0], self.CONTENT[1][2]], [], []]
        self.assert_brought((gone, []), plan, content, ("drop", "rooms", 1))


class BarsTest(Carrying):
    CONTENT = [[(1, 0), (2, 0)], [(3, 1, 0, 2), (4, 1, 4, None), (5, 2, 0, 1)], [(1, 3)], [(2, 4)]]

    def test_gone(self):
        plan = plan_of(tie("a", "beds", "room", "rooms", "bar", "carry"))
        self.assert_barred([("a", 3), ("a", 4)], plan, self.CONTENT, ("drop", "rooms", 1))
        pairs = [("a", 3), ("a", 4), ("a", 5)]
        self.assert_barred(pairs, plan, self.CONTENT, ("sweep", "rooms", "size", 0))

    def test_turned(self):
        plan = plan_of(tie("a", "beds", "room", "rooms", "carry", "bar"))
        deed = ("set", "rooms", 1, "id", 9)
        self.assert_barred([("a", 3), ("a", 4)], plan, self.CONTENT, deed)
        pairs = [("a", 3), ("a", 4), ("a", 5)]
        self.assert_barred(pairs, plan, self.CONTENT, ("shift", "rooms", "id", 1))

    def test_each_way_bars_by_itself_alone(self):
        plan = plan_of(tie("a", "beds", "room", "rooms", "look", "bar"))
        self.assert_brought(([("rooms", 1)], []), plan, self.CONTENT, ("drop", "rooms", 1))
        plan = plan_of(tie("a", "beds", "room", "rooms", "bar", "look"))
        answer = ([], [("rooms", 1, "id", 9)])
        self.assert_brought(answer, plan, self.CONTENT, ("set", "rooms", 1, "id", 9))
        answer = ([], [("rooms", 1, "size", 9)])
        self.assert_brought(answer, plan, self.CONTENT, ("set", "rooms", 1, "size", 9))

    def test_ties_in_order_and_keys_rising(self):
        ties = (
            tie("b", "beds", "back", "rooms", "bar"),
            tie("c", "keys", "room", "rooms", "bar"),
            tie("a", "beds", "room", "rooms", "bar"),
        )
        pairs = [("b", 5), ("c", 1), ("a", 3), ("a", 4)]
        self.assert_barred(pairs, plan_of(*ties), self.CONTENT, ("drop", "rooms", 1))
        pairs = [("a", 3), ("a", 4), ("c", 1), ("b", 5)]
        self.assert_barred(pairs, plan_of(*ties[::-1]), self.CONTENT, ("drop", "rooms", 1))

    def test_further_on(self):
        ties = (
            tie("a", "beds", "room", "rooms", "carry", "carry"),
            tie("b", "age", "bed", "beds", "bar", "bar"),
        )
        plan = plan_of(*ties)
        self.assert_barred([("b", 2)], plan, self.CONTENT, ("drop", "rooms", 1))
        ties = (
            tie("a", "keys", "room", "rooms", "look", "carry"),
            tie("b", "beds", "room", "keys", "look", "bar"),
        )
        deed = ("set", "rooms", 1, "id", 9)
        self.assert_barred([("b", 3), ("b", 4)], plan_of(*ties), self.CONTENT, deed)

    def test_a_row_that_goes_bars_nothing(self):
        ties = (
            tie("a", "beds", "room", "rooms", "bar"),
            tie("b", "keys", "room", "rooms", "carry"),
            tie("c", "beds", "back", "rooms", "carry"),
        )
        content = [[(1, 0)], [(3, 1, 0, 1), (4, 0, 0, 1)], [(1, 0)], []]
        gone = [("rooms", 1), ("beds", 3), ("beds", 4), ("keys", 1)]
        plan = plan_of(*ties)
        self.assert_brought((gone, []), plan, content, ("drop", "rooms", 1))
        content = [[(1, 0)], [(3, 1, 0, 1), (4, 1, 0, None)], [(1, 0)], []]
        self.assert_barred([("a", 4)], plan, content, ("drop", "rooms", 1))

    def test_a_row_that_leans_on_itself(self):
        plan = plan_of(tie("a", "beds", "next", "beds", "bar", "bar"))
        self.assert_brought(([("beds", 4)], []), plan, self.CONTENT, ("drop", "beds", 4))
        deed = ("set", "beds", 4, "id", 8)
        self.assert_barred([("a", 4)], plan, self.CONTENT, deed)
        answer = ([], [("beds", 3, "id", 8)])
        self.assert_brought(answer, plan, self.CONTENT, ("set", "beds", 3, "id", 8))

    def test_rows_on_one_another_go_together(self):
        plan = plan_of(tie("a", "beds", "next", "beds", "bar", "bar"))
        content = [[], [(1, 5, 2, None), (2, 5, 1, None), (3, 6, None, None)], [], []]
        answer = ([("beds", 1), ("beds", 2)], [])
        self.assert_brought(answer, plan, content, ("sweep", "beds", "room", 5))
        self.assert_barred([("a", 2)], plan, content, ("drop", "beds", 1))

    def test_bars_go_ahead_of_parts(self):
        ties = (
            tie("a", "beds", "room", "rooms", "empty"),
            tie("b", "beds", "room", "rooms", "fallback"),
            tie("c", "beds", "back", "rooms", "bar"),
        )
        plan, deed = plan_of(*ties), ("drop", "rooms", 1)
        self.assert_barred([("c", 5)], plan, self.CONTENT, deed)
        cells = [("beds", 3, "room", (None, -1)), ("beds", 4, "room", (None, -1))]
        self.assert_tells(cells, parts, plan, self.CONTENT, deed)


class RefusedByItselfTest(Carrying):
    def test_own_part_goes_first(self):
        plan = plan_of(tie("a", "beds", "room", "rooms", "bar", "bar"))
        content = [[], [(3, 1, 0, 1)], [], []]
        fields = {"table": "rooms", "key": 1}
        for ask in (brought, carried, bars, parts):
            for deed in (("drop", "rooms", 1), ("set", "rooms", 1, "id", 2)):
                self.assert_refused(NoRow, fields, ask, plan, content, deed)
            fields_taken = {"table": "beds", "key": 3}
            deed = ("put", "beds", (3, None, None, None))
            self.assert_refused(Taken, fields_taken, ask, plan, content, deed)


class LongTest(Carrying):
    def chain(self, many):
        return [[], [(at, None, at - 1 if at else None, None) for at in range(many)], [], []]

    def test_sixty_rows_one_on_the_other_go(self):
        plan = plan_of(tie("a", "beds", "next", "beds", "carry"))
        for many in (60, 400):
            gone = [("beds", at) for at in range(many)]
            self.assert_brought((gone, []), plan, self.chain(many), ("drop", "beds", 0))

    def test_a_shift_of_them_all(self):
        plan = plan_of(tie("a", "beds", "next", "beds", "look", "carry", "once"))
        content = self.chain(60)
        cells = []
        for at in range(60):
            cells.append(("beds", at, "id", at + A_BILLION))
            if at:
                cells.append(("beds", at, "next", at - 1 + A_BILLION))
        deed = ("shift", "beds", "id", A_BILLION)
        self.assert_brought(([], cells), plan, content, deed)
        rows = [(at + A_BILLION, None, at - 1 + A_BILLION if at else None, None) for at in range(60)]
        self.assert_tells([[], rows, [], []], carried, plan, content, deed)

    def test_a_ring_of_rows_goes(self):
        plan = plan_of(tie("a", "beds", "next", "beds", "carry"))
        content = self.chain(60)
        content[1][0] = (0, None, 59, None)
        gone = [("beds", at) for at in range(60)]
        self.assert_brought((gone, []), plan, content, ("drop", "beds", 31))


class CarriedTest(Carrying):
    CONTENT = [[(1, 0), (2, 0)], [(3, 1, None, None), (4, 2, 3, None)], [], []]

    def assert_carried(self, answer, ties, deed, content=CONTENT):
        self.assert_tells(answer, carried, plan_of(*ties), content, deed)

    def test_by_names(self):
        told = carried(plan=plan_of(), content=self.CONTENT, deed=("drop", "rooms", 2))
        self.assertEqual(told, [[(1, 0)], self.CONTENT[1], [], []])
        for ask in (brought, bars, parts):
            ask(plan=plan_of(), content=self.CONTENT, deed=("drop", "rooms", 2))

    def test_rows_gone_cells_and_rows_put_in(self):
        ties = (tie("a", "beds", "room", "rooms", "fallback", "carry"),)
        self.assert_carried([[(2, 0)], [(3, -1, None, None), (4, 2, 3, None)], [], []],
                            ties, ("drop", "rooms", 1))
        self.assert_carried([[(2, 0), (5, 0)], [(3, 5, None, None), (4, 2, 3, None)], [], []],
                            ties, ("set", "rooms", 1, "id", 5))
        self.assert_carried([[(1, 0), (2, 0)], self.CONTENT[1], [(7, None)], []],
                            ties, ("put", "keys", (7, None)))
        self.assert_carried(self.CONTENT, ties, ("shift", "rooms", "id", 0))

    def test_taken(self):
        ties = (tie("a", "beds", "room", "rooms", "look", "carry", "once"),)
        fields = {"table": "rooms", "key": 2}
        deed = ("set", "rooms", 1, "id", 2)
        self.assert_refused(Taken, fields, carried, plan_of(*ties), self.CONTENT, deed)

    def test_taken_further_on(self):
        ties = (tie("a", "keys", "room", "rooms", "look", "carry", "once"),)
        content = [[(1, 0)], [], [(1, 0), (2, 0)], []]
        fields = {"table": "keys", "key": 2}
        deed = ("set", "rooms", 1, "id", 2)
        self.assert_refused(Taken, fields, carried, plan_of(*ties), content, deed)

    def test_keys_shifted_past_one_another_are_not_taken(self):
        ties = (tie("a", "beds", "room", "rooms", "look", "carry", "once"),)
        answer = [[(2, 0), (3, 0)], [(3, 2, None, None), (4, 3, 3, None)], [], []]
        self.assert_carried(answer, ties, ("shift", "rooms", "id", 1))

    def test_loose(self):
        ties = (
            tie("b", "beds", "next", "beds", "look", "look", "once"),
            tie("a", "beds", "room", "rooms", "look", "look", "once"),
        )
        plan = plan_of(*ties)
        fields = {"pairs": [("a", 3)]}
        for deed in (("drop", "rooms", 1), ("set", "rooms", 1, "id", 9)):
            self.assert_refused(Loose, fields, carried, plan, self.CONTENT, deed)
        fields = {"pairs": [("a", 3), ("a", 4)]}
        deed = ("sweep", "rooms", "size", 0)
        self.assert_refused(Loose, fields, carried, plan, self.CONTENT, deed)
        fields = {"pairs": [("b", 9), ("a", 9)]}
        deed = ("put", "beds", (9, 8, 7, None))
        self.assert_refused(Loose, fields, carried, plan, self.CONTENT, deed)
        fields = {"pairs": [("a", 4)]}
        deed = ("set", "beds", 4, "room", 8)
        self.assert_refused(Loose, fields, carried, plan, self.CONTENT, deed)

    def test_loose_by_ties_of_once_alone(self):
        ties = (
            tie("a", "beds", "room", "rooms", "look", "look", "end"),
            tie("b", "beds", "next", "beds", "look", "look", "once"),
        )
        self.assert_carried([[(2, 0)], self.CONTENT[1], [], []], ties, ("drop", "rooms", 1))
        deed = ("put", "beds", (9, 8, 7, None))
        fields = {"pairs": [("b", 9)]}
        self.assert_refused(Loose, fields, carried, plan_of(*ties), self.CONTENT, deed)

    def test_what_was_loose_ahead_is_loose_all_the_same(self):
        plan = plan_of(tie("a", "beds", "room", "rooms", "look", "look", "once"))
        content = [[], [(3, 1, None, None)], [], []]
        fields = {"pairs": [("a", 3)]}
        self.assert_refused(Loose, fields, carried, plan, content, ("put", "rooms", (2, 0)))
        self.assert_tells([[(1, 0)], content[1], [], []], carried, plan, content,
                          ("put", "rooms", (1, 0)))

    def test_a_row_put_in_may_lean_on_itself(self):
        ties = (tie("b", "beds", "next", "beds", "bar", "bar", "once"),)
        answer = [[], [(9, None, 9, None)], [], []]
        self.assert_carried(answer, ties, ("put", "beds", (9, None, 9, None)), [[], [], [], []])

    def test_taken_goes_ahead_of_loose(self):
        plan = plan_of(tie("a", "beds", "room", "rooms", "look", "look", "once"))
        fields = {"table": "rooms", "key": 2}
        deed = ("set", "rooms", 1, "id", 2)
        self.assert_refused(Taken, fields, carried, plan, self.CONTENT, deed)

    def test_bars_and_parts_go_ahead_of_taken(self):
        deed = ("set", "rooms", 1, "id", 2)
        plan = plan_of(tie("a", "beds", "room", "rooms", "look", "bar", "once"))
        self.assert_barred([("a", 3)], plan, self.CONTENT, deed)
        plan = plan_of(tie("a", "beds", "room", "rooms", "look", "empty", "once"),
                       tie("b", "beds", "room", "rooms", "look", "carry", "once"))
        self.assert_parted([("beds", 3, "room", (None, 2))], plan, self.CONTENT, deed)

    def test_rules_are_left_aside(self):
        acts = (("drop", "rooms", ("old", "id")),)
        rule = ("r", "row", "rooms", "drop", None, None, acts)
        stop = ("s", "ahead", "rooms", "drop", None, (1, "like", 1), ())
        plan = (TABLES, (), (rule, stop))
        self.assert_tells([[(2, 0)], self.CONTENT[1], [], []], carried, plan, self.CONTENT,
                          ("drop", "rooms", 1))


class NaiveTest(Asking):
    """Against what the document's words come to when they are gone round by."""

    def test_cast_plans(self):
        seen = {}
        for seed in range(3000):
            plan, content, deed = cast(seed)
            with self.subTest(seed=seed):
                self.assertTrue(is_tables(plan[0]) and is_ties(plan[0], plan[1]))
                self.assertTrue(is_content(plan[0], content) and is_deed(plan[0], deed))
                word = self.compared(plan, content, deed)
            seen[word] = seen.get(word, 0) + 1
        # All of it has come up, and not too seldom.
        words = ("NoRow", "Taken at once", "Barred", "Parted", "Taken", "Loose", "done")
        for word in words:
            self.assertGreater(seen.get(word, 0), 9, word)

    def compared(self, plan, content, deed):
        """How it ended, in a word."""
        try:
            rows = own_part(plan[0], content, deed)[2]
        except NoRow:
            return "NoRow"
        except Taken:
            return "Taken at once"
        barring, parted = naive.bars(plan, content, deed), naive.parts(plan, content, deed)
        self.assertEqual(bars(plan, content, deed), barring)
        self.assertEqual(parts(plan, content, deed), parted)
        try:
            gone, cells = brought(plan, content, deed)
        except Barred as error:
            self.assertEqual((error.tie, error.key), barring[0])
            return "Barred"
        except Parted as error:
            self.assertEqual(barring, [])
            self.assertEqual((error.table, error.key, error.column), parted[0][:3])
            return "Parted"
        self.assertEqual((barring, parted), ([], []))
        self.assertEqual((gone, cells), naive.brought(plan, content, deed))
        behind = naive.behind(plan, content, deed)
        if behind is not None:
            self.assertEqual(changed(plan[0], content, gone, cells, rows), behind)
        return self.compared_behind(plan, content, deed, behind)

    def compared_behind(self, plan, content, deed, behind):
        pairs = None if behind is None else naive.loose(plan, behind, ("once",))
        try:
            told = carried(plan, content, deed)
        except TableError as error:
            if isinstance(error, Loose):
                self.assertEqual(error.pairs, pairs)
                self.assertNotEqual(pairs, [])
            else:
                self.assertIsNone(behind)
            return type(error).__name__
        self.assertEqual((told, pairs), (behind, []))
        return "done"
