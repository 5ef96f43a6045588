from tests.parts import (
    A_BILLION, NO_TUPLES, NO_WORTHS, Asking, listed, part_at, places, spoiled, tuple_places,
    tupled, with_list_at, with_part_fewer, with_part_more)
from tiedtables.contents import changed, is_content, row_of
from tiedtables.errors import NoSuch, Taken

TABLES = (
    ("rooms", (("id", None), ("size", 4))),
    ("beds", (("id", None), ("room", -1), ("next", None))),
    ("tags", (("id", None),)),
)
CONTENT = [
    [(-3, 7), (0, None), (2, 7)],
    [(1, -3, None), (5, 2, 1)],
    [],
]
BARE = [[], [], []]


def many_rows(many, start=0):
    return [(start + at, at) for at in range(many)]


class IsContentTest(Asking):
    def assert_content(self, answer, thing, tables=TABLES):
        self.assert_answers(answer, is_content, tables, thing)

    def test_ordinary_contents(self):
        self.assert_content(True, CONTENT)
        self.assert_content(True, BARE)
        self.assert_content(True, [[(1, 1)], [(1, 1, 1)], [(1,)]])
        self.assertIs(is_content(tables=TABLES, thing=CONTENT), True)

    def test_worths_at_the_bounds_and_beyond(self):
        for place in ((0, 1, 1), (1, 0, 2)):
            for worth in (A_BILLION, -A_BILLION, 0, None):
                self.assert_content(True, spoiled(CONTENT, place, worth))
            for worth in NO_WORTHS:
                self.assert_content(False, spoiled(CONTENT, place, worth))

    def test_keys_at_the_bounds_and_beyond(self):
        for key in (A_BILLION, 3):
            self.assert_content(True, spoiled(CONTENT, (0, 2, 0), key))
        for key in (-A_BILLION, -4):
            self.assert_content(True, spoiled(CONTENT, (0, 0, 0), key))
        for place in ((0, 0, 0), (0, 2, 0), (1, 1, 0)):
            for key in NO_WORTHS + (None,):
                self.assert_content(False, spoiled(CONTENT, place, key))

    def test_a_key_alone_that_is_nothing(self):
        self.assert_content(False, [[(None, 1)], [], []])
        self.assert_content(False, [[], [], [(None,)]])

    def test_keys_twice_or_falling(self):
        self.assert_content(False, [[(1, 1), (1, 2)], [], []])
        self.assert_content(False, [[(1, 1), (1, 1)], [], []])
        self.assert_content(False, [[(1, 1), (3, 1), (3, 2)], [], []])
        self.assert_content(False, [[(2, 1), (1, 2)], [], []])
        self.assert_content(False, [[(1, 1), (5, 1), (4, 1), (6, 1)], [], []])
        self.assert_content(False, [[], [(-1, 1, 1), (-2, 1, 1)], []])

    def test_a_key_in_two_tables(self):
        self.assert_content(True, [[(1, 1)], [(1, 1, 1)], [(1,)]])

    def test_sixty_rows_together(self):
        self.assert_content(True, [many_rows(60), [], []])
        self.assert_content(False, [many_rows(61), [], []])
        tags = [(at,) for at in range(30)]
        self.assert_content(True, [many_rows(30), [], tags])
        self.assert_content(False, [many_rows(31), [], tags])
        self.assert_content(False, [many_rows(30), [(1, 1, 1)], tags])
        self.assert_content(False, [many_rows(700), [], []])

    def test_a_table_more_or_fewer(self):
        self.assert_content(False, [])
        self.assert_content(False, CONTENT[:2])
        self.assert_content(False, CONTENT + [[]])
        self.assert_content(False, [CONTENT[1], CONTENT[0], []])
        self.assert_content(True, [[(3,)]], TABLES[2:])
        self.assert_content(False, BARE, TABLES[:2])

    def test_a_worth_more_or_fewer(self):
        for place in tuple_places(CONTENT):
            for part in (0, None, 1) + NO_TUPLES:
                self.assert_content(False, with_part_more(CONTENT, place, part))
            self.assert_content(False, with_part_fewer(CONTENT, place))
            self.assert_content(False, spoiled(CONTENT, place, ()))

    def test_a_list_for_a_tuple_and_the_other_way_about(self):
        self.assert_content(False, listed(CONTENT))
        self.assert_content(False, tupled(CONTENT))
        self.assert_content(False, tupled(BARE))
        for place in places(CONTENT):
            part = part_at(CONTENT, place)
            if isinstance(part, tuple):
                self.assert_content(False, with_list_at(CONTENT, place))
            if isinstance(part, list):
                self.assert_content(False, spoiled(CONTENT, place, tuple(part)))

    def test_another_kind_of_thing_at_every_place(self):
        for place in places(CONTENT):
            worth = not isinstance(part_at(CONTENT, place), (list, tuple))
            for thing in NO_WORTHS if worth else NO_TUPLES + NO_WORTHS:
                # A bare table is a table all the same.
                right = len(place) == 1 and thing == [] and isinstance(thing, list)
                self.assert_content(right, spoiled(CONTENT, place, thing))

    def test_a_tuple_or_a_list_about_any_part(self):
        for place in places(CONTENT):
            self.assert_content(False, spoiled(CONTENT, place, (part_at(CONTENT, place),)))
            self.assert_content(False, spoiled(CONTENT, place, [part_at(CONTENT, place)]))

    def test_things_deep_and_long(self):
        self.assert_content(False, [[[[[[[[]]]]]]]])
        self.assert_content(False, [[]] * 2900)


class RowOfTest(Asking):
    def test_rows_that_are_there(self):
        for (table, _), rows in zip(TABLES, CONTENT):
            for row in rows:
                self.assert_tells(row, row_of, TABLES, CONTENT, table, row[0])
        told = row_of(tables=TABLES, content=CONTENT, table="beds", key=5)
        self.assertEqual(told, (5, 2, 1))

    def test_rows_that_are_not(self):
        for table, key in (("rooms", 1), ("rooms", 7), ("beds", 2), ("tags", 0), ("rooms", None)):
            self.assert_tells(None, row_of, TABLES, CONTENT, table, key)

    def test_greater_keys_and_more_rows(self):
        content = [many_rows(200, A_BILLION), [], []]
        for at in (0, 60, 199):
            row = (A_BILLION + at, at)
            self.assert_tells(row, row_of, TABLES, content, "rooms", A_BILLION + at)

    def test_a_table_that_is_not_there(self):
        for table in ("doors", "id", "room"):
            fields = {"what": "table", "name": table}
            self.assert_refused(NoSuch, fields, row_of, TABLES, CONTENT, table, 1)


class ChangedTest(Asking):
    def assert_changed(self, answer, gone=(), cells=(), rows=(), content=CONTENT):
        given = (TABLES, content, list(gone), list(cells), list(rows))
        self.assert_tells(answer, changed, *given)

    def assert_taken(self, table, key, gone=(), cells=(), rows=(), content=CONTENT):
        fields = {"table": table, "key": key}
        given = (TABLES, content, list(gone), list(cells), list(rows))
        self.assert_refused(Taken, fields, changed, *given)

    def test_nothing(self):
        self.assert_changed(CONTENT)
        self.assert_changed(BARE, content=BARE)

    def test_by_names(self):
        told = changed(tables=TABLES, content=BARE, gone=[], cells=[], rows=[("tags", (1,))])
        self.assertEqual(told, [[], [], [(1,)]])

    def test_rows_gone(self):
        answer = [[(-3, 7), (2, 7)], [(1, -3, None)], []]
        self.assert_changed(answer, gone=[("rooms", 0), ("beds", 5)])
        gone = [("beds", 5), ("beds", 1), ("rooms", 2), ("rooms", -3), ("rooms", 0)]
        self.assert_changed(BARE, gone=gone)

    def test_a_row_gone_of_one_table_alone(self):
        content = [[(1, 1)], [(1, 1, 1)], [(1,)]]
        self.assert_changed([[(1, 1)], [], [(1,)]], gone=[("beds", 1)], content=content)

    def test_cells_set(self):
        cells = [("beds", 1, "room", 2), ("beds", 1, "next", -9), ("rooms", 2, "size", None)]
        answer = [[(-3, 7), (0, None), (2, None)], [(1, 2, -9), (5, 2, 1)], []]
        self.assert_changed(answer, cells=cells)

    def test_cells_set_to_what_they_are(self):
        self.assert_changed(CONTENT, cells=[("beds", 5, "room", 2), ("beds", 5, "id", 5)])

    def test_keys_set_and_the_rows_rise_again(self):
        cells = [("rooms", -3, "id", 9), ("rooms", 2, "id", -9)]
        answer = [[(-9, 7), (0, None), (9, 7)], CONTENT[1], []]
        self.assert_changed(answer, cells=cells)

    def test_keys_of_cells_are_those_ahead(self):
        cells = [("beds", 1, "id", 5), ("beds", 5, "id", 1), ("beds", 1, "room", 8)]
        answer = [CONTENT[0], [(1, 2, 1), (5, 8, None)], []]
        self.assert_changed(answer, cells=cells)

    def test_cells_of_rows_gone_are_left_aside(self):
        cells = [("beds", 5, "id", 1), ("beds", 5, "next", 4), ("beds", 1, "next", 6)]
        answer = [CONTENT[0], [(1, -3, 6)], []]
        self.assert_changed(answer, gone=[("beds", 5)], cells=cells)

    def test_rows_put_in(self):
        rows = [("rooms", (1, 1)), ("tags", (4,)), ("rooms", (-8, None)), ("tags", (3,))]
        answer = [[(-8, None), (-3, 7), (0, None), (1, 1), (2, 7)], CONTENT[1], [(3,), (4,)]]
        self.assert_changed(answer, rows=rows)

    def test_a_row_put_in_for_one_gone_or_turned(self):
        rows = [("beds", (5, None, None))]
        answer = [CONTENT[0], [(1, -3, None), (5, None, None)], []]
        self.assert_changed(answer, gone=[("beds", 5)], rows=rows)
        answer = [CONTENT[0], [(1, -3, None), (5, None, None), (6, 2, 1)], []]
        self.assert_changed(answer, cells=[("beds", 5, "id", 6)], rows=rows)

    def test_a_cell_is_of_the_row_ahead_not_of_the_one_put_in(self):
        cells = [("beds", 5, "id", 6), ("beds", 5, "next", 7)]
        answer = [CONTENT[0], [(1, -3, None), (5, 0, 0), (6, 2, 7)], []]
        self.assert_changed(answer, cells=cells, rows=[("beds", (5, 0, 0))])

    def test_more_rows_and_greater_worths_than_is_content_takes(self):
        content = [many_rows(100, A_BILLION), [], []]
        rows = [("rooms", (3 * A_BILLION, -(10 ** 20)))]
        answer = [content[0][1:] + [(3 * A_BILLION, -(10 ** 20))], [], []]
        self.assert_changed(answer, gone=[("rooms", A_BILLION)], rows=rows, content=content)

    def test_taken_by_a_cell(self):
        self.assert_taken("beds", 5, cells=[("beds", 1, "id", 5)])
        self.assert_taken("rooms", 9, cells=[("rooms", 0, "id", 9), ("rooms", 2, "id", 9)])

    def test_taken_by_a_row(self):
        self.assert_taken("beds", 1, rows=[("beds", (1, None, None))])
        self.assert_taken("tags", 1, rows=[("tags", (1,)), ("tags", (1,))])
        cells = [("beds", 1, "id", 3)]
        self.assert_taken("beds", 3, cells=cells, rows=[("beds", (3, None, None))])

    def test_the_first_table_and_its_least_key(self):
        rows = [("tags", (1,)), ("tags", (1,)), ("beds", (5, 0, 0)), ("beds", (1, 0, 0))]
        self.assert_taken("beds", 1, rows=rows)
        self.assert_taken("tags", 1, gone=[("beds", 5), ("beds", 1)], rows=rows)
        cells = [("rooms", 2, "id", 0)]
        self.assert_taken("rooms", 0, cells=cells, rows=rows)
        tags = [("tags", (key,)) for key in (7, -2, 7, 4, -2, 4)]
        self.assert_taken("tags", -2, rows=tags)

    def test_the_key_that_a_row_leaves_is_not_taken(self):
        cells = [("beds", 1, "id", 5), ("beds", 5, "id", 6)]
        answer = [CONTENT[0], [(5, -3, None), (6, 2, 1)], []]
        self.assert_changed(answer, cells=cells)

    def test_what_was_handed_in_is_not_kept(self):
        row = [4]
        content = listed(CONTENT)
        told = changed(TABLES, content, [], [], [["tags", row]])
        row[0] = 5
        content[0][0][1] = 8
        content[1].clear()
        self.assertEqual(told, CONTENT[:2] + [[(4,)]])
