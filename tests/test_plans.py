import copy
import unittest

from tests.parts import (
    A_BILLION, NO_NAMES, NO_TUPLES, NO_WORTHS, listed, part_at, places, spoiled,
    tuple_places, with_list_at, with_part_fewer, with_part_more)
from tiedtables.errors import NoSuch
from tiedtables.plans import MOST_DEEDS, column_place, fallback_of, is_tables

TABLES = (
    ("rooms", (("id", None), ("size", 4), ("floor", None))),
    ("beds", (("id", None), ("room", -1))),
    ("id", (("id", None),)),
)
LETTERS = "abcdefghijklmnopqrstuvwxyz"


def columns(many):
    return (("key", None),) + tuple((LETTERS[at], at) for at in range(many - 1))


def tables(many, each=1):
    return tuple((LETTERS[at], columns(each)) for at in range(many))


class Asking(unittest.TestCase):
    def assert_told(self, thing, answer):
        before = copy.deepcopy(thing)
        with self.subTest(thing=thing):
            self.assertIs(is_tables(thing), answer)
            self.assertIs(is_tables(thing=thing), answer)
            self.assertEqual(repr(thing), repr(before))


class RightTablesTest(Asking):
    def test_ordinary_tables(self):
        self.assert_told(TABLES, True)

    def test_from_one_to_six_tables(self):
        for many in range(1, 7):
            self.assert_told(tables(many), True)

    def test_from_one_to_five_columns(self):
        for each in range(1, 6):
            self.assert_told(tables(1, each), True)

    def test_the_greatest(self):
        self.assert_told(tables(6, 5), True)

    def test_names_of_one_to_eight_letters(self):
        for name in ("a", "z", "ab", "abcdefgh", "zzzzzzzz"):
            self.assert_told(((name, ((name, None), ("other", 0))),), True)
            self.assert_told((("beds", (("key", None), (name, 0))),), True)

    def test_every_letter(self):
        for letter in LETTERS:
            self.assert_told(((letter, ((letter, None),)),), True)

    def test_fallbacks(self):
        for worth in (None, 0, 1, -1, A_BILLION, -A_BILLION):
            self.assert_told((("beds", (("key", None), ("room", worth))),), True)

    def test_a_column_so_called_in_two_tables(self):
        self.assert_told((("a", columns(3)), ("b", columns(3))), True)

    def test_a_column_called_as_a_table(self):
        self.assert_told((("a", (("a", None), ("b", 0))), ("b", (("a", None),))), True)


class WrongTablesTest(Asking):
    def test_no_tables_and_seven(self):
        self.assert_told((), False)
        self.assert_told(tables(7), False)

    def test_no_columns_and_six(self):
        self.assert_told((("a", ()),), False)
        self.assert_told(tables(1, 6), False)
        self.assert_told(tables(1) + (("b", ()),), False)
        self.assert_told(tables(1) + (("b", columns(6)),), False)

    def test_things_beyond_any_bound_asked_for(self):
        self.assert_told(tables(1) * 3000, False)
        self.assert_told((("a", columns(1) * 1000),), False)
        self.assert_told(((((((((),),),),),),),), False)

    def test_names_told_twice(self):
        self.assert_told(tables(2) + tables(1), False)
        self.assert_told(tables(1) + tables(1, 2), False)
        self.assert_told((("a", columns(3) + (("a", 5),)),), False)
        self.assert_told((("a", columns(3) + (("key", None),)),), False)
        self.assert_told(tables(1) + (("b", columns(2) + (("a", 5),)),), False)

    def test_a_key_with_a_fallback(self):
        for fallback in NO_WORTHS + (0, 1, -1, A_BILLION):
            self.assert_told((("a", (("key", fallback),)),), False)
            self.assert_told(tables(1) + (("b", (("key", fallback), ("a", None))),), False)

    def test_wrong_fallbacks(self):
        for fallback in NO_WORTHS:
            self.assert_told((("a", (("key", None), ("room", fallback))),), False)
            self.assert_told(spoiled(TABLES, (0, 1, 2, 1), fallback), False)

    def test_wrong_names(self):
        for name in NO_NAMES:
            self.assert_told(spoiled(TABLES, (0, 0), name), False)
            self.assert_told(spoiled(TABLES, (2, 0), name), False)
            self.assert_told(spoiled(TABLES, (0, 1, 0, 0), name), False)
            self.assert_told(spoiled(TABLES, (0, 1, 2, 0), name), False)

    def test_a_list_for_a_tuple_at_every_depth(self):
        for place in tuple_places(TABLES):
            self.assert_told(with_list_at(TABLES, place), False)
        self.assert_told(listed(TABLES), False)

    def test_a_tuple_or_a_list_about_any_part(self):
        for place in places(TABLES):
            self.assert_told(spoiled(TABLES, place, (part_at(TABLES, place),)), False)
            self.assert_told(spoiled(TABLES, place, [part_at(TABLES, place)]), False)

    def test_other_things_for_a_tuple_at_every_depth(self):
        for place in tuple_places(TABLES):
            for thing in NO_TUPLES + ((),):
                self.assert_told(spoiled(TABLES, place, thing), False)

    def test_a_part_more(self):
        for place in tuple_places(TABLES):
            for part in NO_TUPLES:
                self.assert_told(with_part_more(TABLES, place, part), False)

    def test_a_part_fewer(self):
        for at, (table, pairs) in enumerate(TABLES):
            self.assert_told(with_part_fewer(TABLES, (at,)), False)
            for nth in range(len(pairs)):
                self.assert_told(with_part_fewer(TABLES, (at, 1, nth)), False)


class ColumnPlaceTest(unittest.TestCase):
    def test_each_column_of_each_table(self):
        for shape in (TABLES, tables(6, 5), listed(TABLES)):
            for table, pairs in shape:
                for place, (column, _) in enumerate(pairs):
                    told = column_place(shape, table, column)
                    self.assertEqual(told, place)
                    self.assertIs(type(told), int)

    def test_by_names_of_arguments(self):
        self.assertEqual(column_place(tables=TABLES, table="rooms", column="floor"), 2)


class FallbackOfTest(unittest.TestCase):
    def test_each_column_of_each_table(self):
        for shape in (TABLES, tables(6, 5), listed(TABLES)):
            for table, pairs in shape:
                for column, fallback in pairs:
                    self.assertEqual(fallback_of(shape, table, column), fallback)

    def test_a_key_has_none(self):
        for table, _ in TABLES:
            self.assertIsNone(fallback_of(TABLES, table, "id"))

    def test_by_names_of_arguments(self):
        self.assertEqual(fallback_of(tables=TABLES, table="beds", column="room"), -1)


class NoSuchTest(unittest.TestCase):
    def assert_refused(self, table, column, what, name):
        for shape in (TABLES, listed(TABLES)):
            for asked in (column_place, fallback_of):
                with self.subTest(asked=asked, table=table, column=column):
                    with self.assertRaises(NoSuch) as caught:
                        asked(shape, table, column)
                    self.assertEqual(caught.exception.what, what)
                    self.assertEqual(caught.exception.name, name)

    def test_a_table_that_is_not_there(self):
        self.assert_refused("doors", "id", "table", "doors")
        self.assert_refused("room", "id", "table", "room")

    def test_a_column_that_is_not_there(self):
        self.assert_refused("beds", "wide", "column", "wide")
        self.assert_refused("beds", "rooms", "column", "rooms")

    def test_a_column_of_another_table(self):
        self.assert_refused("beds", "size", "column", "size")
        self.assert_refused("rooms", "room", "column", "room")

    def test_the_table_ahead_of_the_column(self):
        self.assert_refused("doors", "wide", "table", "doors")


class UnchangedTest(unittest.TestCase):
    def test_nothing_handed_in_is_changed_or_kept(self):
        shape = listed(TABLES)
        before = copy.deepcopy(shape)
        self.assertEqual(column_place(shape, "rooms", "size"), 1)
        self.assertEqual(fallback_of(shape, "rooms", "size"), 4)
        self.assertEqual(shape, before)
        shape[0][1][1][1] = 9
        shape[0][1].reverse()
        self.assertEqual(column_place(shape, "rooms", "id"), 2)
        self.assertEqual(fallback_of(shape, "rooms", "size"), 9)


class MostDeedsTest(unittest.TestCase):
    def test_it_is_forty(self):
        self.assertEqual(MOST_DEEDS, 40)
        self.assertIs(type(MOST_DEEDS), int)
