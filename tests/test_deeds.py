from tests.parts import (
    A_BILLION, NO_NAMES, NO_TUPLES, NO_WORTHS, Asking, listed, part_at, places, spoiled,
    tuple_places, with_list_at, with_part_fewer, with_part_more)
from tiedtables.deeds import is_deed, own_part
from tiedtables.errors import NoRow, Taken

# The second table's columns do not stand by their names, nor do the tables.
TABLES = (
    ("rooms", (("id", None), ("size", 4))),
    ("beds", (("no", None), ("room", -1), ("age", None))),
)
CONTENT = [
    [(-3, 7), (0, None), (2, 7)],
    [(1, -3, None), (5, 2, 1), (6, None, 1)],
]
PUT = ("put", "beds", (3, 2, None))
DROP = ("drop", "rooms", 2)
SET = ("set", "beds", 5, "age", 0)
SWEEP = ("sweep", "beds", "age", 1)
SHIFT = ("shift", "rooms", "size", 3)
DEEDS = (PUT, DROP, SET, SWEEP, SHIFT)
HUGE = 10 ** 12


class IsDeedTest(Asking):
    def assert_deed(self, answer, thing, tables=TABLES):
        self.assert_answers(answer, is_deed, tables, thing)

    def assert_place(self, deed, place, right, wrong):
        for part in right:
            self.assert_deed(True, spoiled(deed, place, part))
        for part in wrong:
            self.assert_deed(False, spoiled(deed, place, part))

    def test_ordinary_deeds(self):
        for deed in DEEDS:
            self.assert_deed(True, deed)
            self.assertIs(is_deed(tables=TABLES, thing=deed), True)

    def test_deeds_of_rows_that_are_not_there(self):
        for deed in (("drop", "rooms", 99), ("set", "beds", 99, "no", 98)):
            self.assert_deed(True, deed)

    def test_worths_that_may_be_nothing(self):
        right = (None, 0, 1, -1, A_BILLION, -A_BILLION)
        for deed, place in ((PUT, (2, 1)), (PUT, (2, 2)), (SET, (4,)), (SWEEP, (3,))):
            self.assert_place(deed, place, right, NO_WORTHS)

    def test_numbers_that_may_not(self):
        right = (0, 1, -1, A_BILLION, -A_BILLION)
        for deed, place in ((PUT, (2, 0)), (DROP, (2,)), (SET, (2,)), (SHIFT, (3,))):
            self.assert_place(deed, place, right, NO_WORTHS + (None,))

    def test_a_key_is_not_set_to_nothing(self):
        self.assert_place(("set", "beds", 5, "no", 6), (4,), (0, A_BILLION), NO_WORTHS + (None,))
        self.assert_deed(False, ("set", "rooms", 2, "id", None))
        self.assert_deed(True, ("set", "beds", 5, "room", None))

    def test_a_key_is_swept_of_nothing_and_shifted(self):
        self.assert_deed(True, ("sweep", "beds", "no", None))
        self.assert_deed(True, ("sweep", "rooms", "id", 2))
        self.assert_deed(True, ("shift", "rooms", "id", -2))

    def test_tables(self):
        wrong = NO_NAMES + ("bed", "doors", "id", "put")
        for deed in DEEDS:
            self.assert_place(deed, (1,), (), wrong)

    def test_columns(self):
        wrong = NO_NAMES + ("id", "size", "beds", "ag", "doors")
        for deed, at in ((SET, 3), (SWEEP, 2)):
            self.assert_place(deed, (at,), ("no", "room", "age"), wrong)
        self.assert_place(SHIFT, (2,), ("id", "size"), NO_NAMES + ("age", "no", "rooms"))

    def test_kinds(self):
        for deed in DEEDS:
            for kind in NO_NAMES + ("pu", "puts", "add", "shiftx", "rooms"):
                self.assert_deed(False, spoiled(deed, (0,), kind))

    def test_kinds_exchanged(self):
        for deed in DEEDS:
            for kind in ("put", "drop", "set", "sweep", "shift"):
                # A sweep of a number and a shift by it are told by the kind alone.
                both = deed in (SWEEP, SHIFT) and kind in ("sweep", "shift")
                right = both or deed[0] == kind
                self.assert_deed(right, spoiled(deed, (0,), kind))

    def test_parts_exchanged(self):
        for deed in DEEDS:
            for one in range(len(deed)):
                for other in range(one):
                    parts = list(deed)
                    parts[one], parts[other] = parts[other], parts[one]
                    # A set's key and its worth are numbers both.
                    self.assert_deed((one, other) == (4, 2), tuple(parts))

    def test_rows_of_another_length(self):
        for row in ((), (3,), (3, 2), (3, 2, None, None), (3,) * 2900):
            self.assert_deed(False, ("put", "beds", row))
        self.assert_deed(True, ("put", "rooms", (3, 2)))
        self.assert_deed(False, ("put", "rooms", (3, 2, 1)))

    def test_a_part_more_or_fewer(self):
        for deed in DEEDS:
            for place in tuple_places(deed):
                for part in NO_TUPLES:
                    self.assert_deed(False, with_part_more(deed, place, part))
                self.assert_deed(False, with_part_fewer(deed, place))
            self.assert_deed(False, deed[1:])

    def test_a_list_for_a_tuple(self):
        for deed in DEEDS:
            self.assert_deed(False, listed(deed))
            for place in tuple_places(deed):
                self.assert_deed(False, with_list_at(deed, place))

    def test_another_kind_of_thing_at_every_place(self):
        for deed in DEEDS:
            for place in tuple_places(deed):
                for thing in NO_TUPLES + DEEDS:
                    right = not place and thing in DEEDS
                    self.assert_deed(right, spoiled(deed, place, thing))

    def test_a_tuple_or_a_list_about_any_part(self):
        for deed in DEEDS:
            for place in places(deed):
                self.assert_deed(False, spoiled(deed, place, (part_at(deed, place),)))
                self.assert_deed(False, spoiled(deed, place, [part_at(deed, place)]))

    def test_things_deep_and_long(self):
        self.assert_deed(False, ((((((((),),),),),),),))
        self.assert_deed(False, ("put",) * 2900)


class OwnPartTest(Asking):
    def assert_part(self, deed, gone=(), cells=(), rows=(), content=CONTENT):
        answer = (list(gone), list(cells), list(rows))
        self.assert_tells(answer, own_part, TABLES, content, deed)

    def test_by_names(self):
        told = own_part(tables=TABLES, content=CONTENT, deed=DROP)
        self.assertEqual(told, ([("rooms", 2)], [], []))

    def test_put(self):
        self.assert_part(PUT, rows=[("beds", (3, 2, None))])
        self.assert_part(("put", "rooms", (5, 5)), rows=[("rooms", (5, 5))])
        self.assert_part(("put", "rooms", (HUGE, -HUGE)), rows=[("rooms", (HUGE, -HUGE))])

    def test_drop(self):
        self.assert_part(DROP, gone=[("rooms", 2)])
        self.assert_part(("drop", "beds", 6), gone=[("beds", 6)])

    def test_set(self):
        self.assert_part(SET, cells=[("beds", 5, "age", 0)])
        self.assert_part(("set", "beds", 5, "room", None), cells=[("beds", 5, "room", None)])
        self.assert_part(("set", "beds", 6, "room", HUGE), cells=[("beds", 6, "room", HUGE)])
        self.assert_part(("set", "rooms", 2, "id", 0), cells=[("rooms", 2, "id", 0)])

    def test_set_to_what_it_is(self):
        self.assert_part(("set", "beds", 5, "age", 1))
        self.assert_part(("set", "beds", 6, "room", None))
        self.assert_part(("set", "beds", 5, "no", 5))

    def test_sweep(self):
        self.assert_part(SWEEP, gone=[("beds", 5), ("beds", 6)])
        self.assert_part(("sweep", "rooms", "id", 2), gone=[("rooms", 2)])

    def test_sweep_of_nothing(self):
        self.assert_part(("sweep", "beds", "room", None), gone=[("beds", 6)])
        self.assert_part(("sweep", "beds", "age", None), gone=[("beds", 1)])
        self.assert_part(("sweep", "beds", "no", None))

    def test_sweep_of_none(self):
        self.assert_part(("sweep", "beds", "age", 0))
        self.assert_part(SWEEP, content=[[], []])

    def test_shift(self):
        self.assert_part(SHIFT, cells=[("rooms", -3, "size", 10), ("rooms", 2, "size", 10)])
        cells = [("beds", 1, "no", -1), ("beds", 5, "no", 3), ("beds", 6, "no", 4)]
        self.assert_part(("shift", "beds", "no", -2), cells=cells)

    def test_shift_past_the_bounds(self):
        content = [[(1, A_BILLION), (2, None)], []]
        cells = [("rooms", 1, "size", 2 * A_BILLION)]
        self.assert_part(("shift", "rooms", "size", A_BILLION), cells=cells, content=content)
        cells = [("rooms", 1, "size", A_BILLION - HUGE)]
        self.assert_part(("shift", "rooms", "size", -HUGE), cells=cells, content=content)

    def test_shift_by_nought_and_of_none(self):
        self.assert_part(("shift", "rooms", "size", 0))
        self.assert_part(("shift", "rooms", "id", 0))
        self.assert_part(SHIFT, content=[[(2, None)], []])
        self.assert_part(SHIFT, content=[[], CONTENT[1]])

    def test_more_rows_than_a_content_has(self):
        content = [[(at, at // 50) for at in range(150)], []]
        gone = [("rooms", at) for at in range(50, 100)]
        self.assert_part(("sweep", "rooms", "size", 1), gone=gone, content=content)

    def test_no_row(self):
        for table, key in (("rooms", 5), ("beds", 2), ("rooms", HUGE)):
            fields = {"table": table, "key": key}
            column = "id" if table == "rooms" else "no"
            for deed in (("drop", table, key), ("set", table, key, column, 1)):
                self.assert_refused(NoRow, fields, own_part, TABLES, CONTENT, deed)
        fields = {"table": "rooms", "key": 1}
        same = ("set", "rooms", 1, "id", 1)
        self.assert_refused(NoRow, fields, own_part, TABLES, CONTENT, same)

    def test_taken(self):
        for (table, _), rows in zip(TABLES, CONTENT):
            for row in rows:
                fields = {"table": table, "key": row[0]}
                deed = ("put", table, row)
                self.assert_refused(Taken, fields, own_part, TABLES, CONTENT, deed)

    def test_a_key_of_another_table_is_not_taken(self):
        self.assert_part(("put", "beds", (2, 0, 0)), rows=[("beds", (2, 0, 0))])

    def test_keys_set_to_one_that_is_there_are_not_refused_here(self):
        self.assert_part(("set", "beds", 5, "no", 6), cells=[("beds", 5, "no", 6)])

    def test_the_row_put_is_not_kept(self):
        row = [3, 2, None]
        told = own_part(TABLES, CONTENT, ["put", "beds", row])
        row[0] = 4
        self.assertEqual(told, ([], [], [("beds", (3, 2, None))]))
