from tests.parts import A_BILLION, Asking
from tiedtables.errors import NoSuch
from tiedtables.leaning import holds, leaning, leans_on, loose

TABLES = (
    ("rooms", (("id", None), ("size", 4))),
    ("beds", (("id", None), ("room", -1), ("next", None))),
    ("keys", (("room", None),)),
)
TIES = (
    ("sleeps", "beds", "room", "rooms", "carry", "carry", "once"),
    ("opens", "keys", "room", "rooms", "bar", "carry", "end"),
    ("beside", "beds", "next", "beds", "empty", "look", "end"),
    ("again", "beds", "room", "keys", "look", "look", "once"),
)
PLAN = (TABLES, TIES, ())
CONTENT = [
    [(1, 4), (2, None)],
    [(3, 1, 3), (4, 1, 9), (5, None, 3), (7, 8, None), (9, 2, 7)],
    [(1,), (8,)],
]
# Each row leans on one that is there, or on none.
FAST = [[(1, 4)], [(3, 1, None), (4, None, 3)], [(1,)]]


class LeaningTest(Asking):
    def assert_leaning(self, answer, tie, key, plan=PLAN, content=CONTENT):
        self.assert_tells(answer, leaning, plan, content, tie, key=key)

    def test_rows_that_lean(self):
        self.assert_leaning([3, 4], "sleeps", 1)
        self.assert_leaning([9], "sleeps", 2)
        self.assert_leaning([1], "opens", 1)
        told = leaning(plan=PLAN, content=CONTENT, tie="beside", key=7)
        self.assertEqual(told, [9])

    def test_the_key_is_told_by_its_name_alone(self):
        self.assertRaises(TypeError, leaning, PLAN, CONTENT, "beside", 7)

    def test_a_row_that_leans_on_itself(self):
        self.assert_leaning([3, 5], "beside", 3)

    def test_a_key_that_is_not_there(self):
        self.assert_leaning([7], "sleeps", 8)
        self.assert_leaning([8], "opens", 8)
        self.assert_leaning([], "sleeps", 99)

    def test_nothing(self):
        for tie in ("sleeps", "opens", "beside"):
            self.assert_leaning([], tie, None)

    def test_one_column_of_two_ties(self):
        self.assert_leaning([7], "again", 8)
        self.assert_leaning([3, 4], "again", 1)

    def test_bare_tables(self):
        self.assert_leaning([], "sleeps", 1, content=[[], [], []])

    def test_many_rows(self):
        beds = [(at, A_BILLION * 3, None) for at in range(120)]
        content = [[], beds, []]
        self.assert_leaning(list(range(120)), "sleeps", A_BILLION * 3, content=content)


class LooseTest(Asking):
    def assert_loose(self, answer, content=CONTENT, plan=PLAN, **when):
        self.assert_tells(answer, loose, plan, content, **when)

    def test_ties_in_order_and_keys_rising(self):
        answer = [("sleeps", 7), ("opens", 8), ("again", 9)]
        self.assert_loose(answer)
        self.assert_loose(answer, when=None)
        turned = (TABLES, TIES[::-1], ())
        self.assert_loose([("again", 9), ("opens", 8), ("sleeps", 7)], plan=turned)
        content = [[], CONTENT[1], []]
        sleeps = [("sleeps", key) for key in (3, 4, 7, 9)]
        again = [("again", key) for key in (3, 4, 7, 9)]
        self.assert_loose(sleeps + again, content=content)

    def test_of_one_time(self):
        self.assert_loose([("sleeps", 7), ("again", 9)], when="once")
        self.assert_loose([("opens", 8)], when="end")
        self.assertEqual(loose(plan=PLAN, content=CONTENT, when="end"), [("opens", 8)])

    def test_the_time_is_told_by_its_name_alone(self):
        self.assertRaises(TypeError, loose, PLAN, CONTENT, "once")

    def test_none(self):
        self.assert_loose([], content=FAST)
        self.assert_loose([], content=FAST, when="once")
        self.assert_loose([], content=[[], [], []])
        self.assert_loose([], plan=(TABLES, (), ()))

    def test_a_row_that_leans_on_itself_is_not_loose(self):
        self.assert_loose([], content=[[], [(3, None, 3)], []])
        self.assert_loose([("beside", 3)], content=[[], [(3, None, 4)], []])

    def test_a_key_of_another_table_holds_nothing(self):
        self.assert_loose([("beside", 3)], content=[[(1, 1)], [(3, None, 1)], [(1,)]])


class HoldsTest(Asking):
    def test_contents(self):
        bare = [[], [], []]
        for content, answer in ((CONTENT, False), (FAST, True), (bare, True)):
            self.assert_tells(answer, holds, PLAN, content)
        self.assertIs(holds(plan=PLAN, content=FAST), True)

    def test_ties_of_each_time(self):
        self.assert_tells(False, holds, PLAN, [[], [(3, None, 4)], []])
        self.assert_tells(False, holds, PLAN, [[], [(3, 1, None)], [(1,)]])

    def test_without_ties(self):
        self.assert_tells(True, holds, (TABLES, (), ()), CONTENT)


class LeansOnTest(Asking):
    def assert_leans_on(self, answer, table, key, plan=PLAN):
        self.assert_tells(answer, leans_on, plan, CONTENT, table, key)

    def test_ties_in_order(self):
        answer = [("sleeps", "rooms", 1), ("beside", "beds", 3), ("again", "keys", 1)]
        self.assert_leans_on(answer, "beds", 3)
        self.assert_leans_on(answer[::-1], "beds", 3, plan=(TABLES, TIES[::-1], ()))
        told = leans_on(plan=PLAN, content=CONTENT, table="keys", key=1)
        self.assertEqual(told, [("opens", "rooms", 1)])

    def test_rows_that_are_not_there_are_left_out(self):
        self.assert_leans_on([("again", "keys", 8)], "beds", 7)
        self.assert_leans_on([], "keys", 8)

    def test_nothing_leans_on_nothing(self):
        self.assert_leans_on([("beside", "beds", 3)], "beds", 5)

    def test_a_table_that_leans_on_none(self):
        self.assert_leans_on([], "rooms", 1)
        self.assert_leans_on([], "beds", 3, plan=(TABLES, (), ()))

    def test_no_row_of_that_key(self):
        for key in (1, 2, 99, None):
            self.assert_leans_on([], "beds", key)

    def test_a_table_that_is_not_there(self):
        for table in ("doors", "sleeps", "id"):
            fields = {"what": "table", "name": table}
            self.assert_refused(NoSuch, fields, leans_on, PLAN, CONTENT, table, 3)
