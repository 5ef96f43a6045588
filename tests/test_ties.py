import copy
import unittest

from tests.parts import (
    NO_NAMES, NO_TUPLES, listed, part_at, places, spoiled, tuple_places,
    with_list_at, with_part_fewer, with_part_more)
from tiedtables.errors import NoSuch
from tiedtables.ties import is_ties, tie_of, ties_on

TABLES = (
    ("rooms", (("id", None), ("size", 4))),
    ("beds", (("id", None), ("room", -1), ("next", None), ("rooms", 0))),
    ("keys", (("room", None), ("id", 3))),
)
SLEEPS = ("sleeps", "beds", "room", "rooms", "carry", "empty", "once")
BESIDE = ("beside", "beds", "next", "beds", "fallback", "look", "end")
OPENS = ("opens", "keys", "room", "rooms", "bar", "carry", "end")
TIES = (SLEEPS, BESIDE, OPENS)
PLAN = (TABLES, TIES, ())

WAYS = ("bar", "carry", "empty", "fallback", "look")
KEY_WAYS = ("bar", "carry", "look")
TIMES = ("once", "end")
# Parts of a tie by their places.
TIE, TABLE, COLUMN, OTHER, GONE, TURNED, WHEN = range(7)


def ties(many):
    return tuple(("abcdefghijk"[at],) + SLEEPS[1:] for at in range(many))


class Asking(unittest.TestCase):
    def assert_told(self, thing, answer, tables=TABLES):
        before = copy.deepcopy(thing)
        shapes = (tables, listed(tables))
        for shape in shapes:
            with self.subTest(thing=thing, shape=shape):
                self.assertIs(is_ties(shape, thing), answer)
                self.assertIs(is_ties(tables=shape, thing=thing), answer)
        self.assertEqual(repr(thing), repr(before))
        self.assertEqual(shapes[1], listed(tables))


class RightTiesTest(Asking):
    def test_ordinary_ties(self):
        self.assert_told(TIES, True)

    def test_from_none_to_ten(self):
        for many in range(11):
            self.assert_told(ties(many), True)

    def test_names_of_one_to_eight_letters(self):
        for name in ("a", "z", "abcdefgh", "zzzzzzzz"):
            self.assert_told((spoiled(SLEEPS, (TIE,), name),), True)

    def test_a_tie_called_as_a_table_or_a_column(self):
        for name in ("rooms", "beds", "room", "id", "bar", "once"):
            self.assert_told((spoiled(SLEEPS, (TIE,), name),), True)

    def test_every_way_where_the_column_is_no_key(self):
        for gone in WAYS:
            for turned in WAYS:
                for when in TIMES:
                    self.assert_told((SLEEPS[:GONE] + (gone, turned, when),), True)

    def test_every_way_of_a_key(self):
        for gone in KEY_WAYS:
            for turned in KEY_WAYS:
                self.assert_told((OPENS[:GONE] + (gone, turned, "end"),), True)

    def test_a_key_of_one_table_is_no_key_in_another(self):
        # The column room is the key of keys alone, id is no key of keys.
        for way in ("empty", "fallback"):
            self.assert_told((("a", "keys", "id", "beds", way, way, "once"),), True)
            self.assert_told((("a", "beds", "room", "keys", way, way, "once"),), True)

    def test_every_column_on_every_table(self):
        for table, pairs in TABLES:
            for column, _ in pairs:
                for other, _ in TABLES:
                    self.assert_told((("a", table, column, other, "bar", "look", "end"),), True)

    def test_several_of_one_column(self):
        self.assert_told((SLEEPS, ("again",) + SLEEPS[1:]), True)

    def test_ties_of_the_smallest_tables(self):
        tables = (("a", (("a", None),)),)
        self.assert_told((), True, tables)
        self.assert_told((("a", "a", "a", "a", "carry", "bar", "once"),), True, tables)


class WrongTiesTest(Asking):
    def assert_part_refused(self, at, parts):
        for nth in range(len(TIES)):
            for part in parts:
                self.assert_told(spoiled(TIES, (nth, at), part), False)

    def test_eleven(self):
        self.assert_told(ties(11), False)

    def test_things_beyond_any_bound_asked_for(self):
        self.assert_told(ties(1) * 3000, False)
        self.assert_told((SLEEPS * 400,), False)
        self.assert_told(((((((((),),),),),),),), False)

    def test_names_told_twice(self):
        self.assert_told((SLEEPS, SLEEPS), False)
        self.assert_told((SLEEPS, BESIDE, ("sleeps",) + OPENS[1:]), False)
        self.assert_told(ties(9) + ties(1), False)

    def test_wrong_names(self):
        self.assert_part_refused(TIE, NO_NAMES)

    def test_tables_that_are_not_there(self):
        wrong = NO_NAMES + ("doors", "room", "id", "sleeps", "roomsx", "bed")
        self.assert_part_refused(TABLE, wrong)
        self.assert_part_refused(OTHER, wrong)

    def test_columns_that_are_not_there(self):
        self.assert_part_refused(COLUMN, NO_NAMES + ("doors", "size", "i", "beds"))

    def test_columns_of_the_other_table_alone(self):
        self.assert_told((spoiled(SLEEPS, (COLUMN,), "size"),), False)
        self.assert_told((spoiled(OPENS, (COLUMN,), "next"),), False)

    def test_wrong_ways(self):
        wrong = NO_NAMES + ("b", "ba", "bars", "carried", "nothing", "once", "end")
        self.assert_part_refused(GONE, wrong)
        self.assert_part_refused(TURNED, wrong)

    def test_wrong_times(self):
        wrong = NO_NAMES + ("o", "onc", "ends", "ahead", "bar", "look")
        self.assert_part_refused(WHEN, wrong)

    def test_a_key_is_never_set_to_nothing_or_a_fallback(self):
        for table, pairs in TABLES:
            key = pairs[0][0]
            for other, _ in TABLES:
                for way in ("empty", "fallback"):
                    for right in KEY_WAYS + ("empty", "fallback"):
                        ahead = ("a", table, key, other)
                        self.assert_told((ahead + (way, right, "end"),), False)
                        self.assert_told((ahead + (right, way, "once"),), False)

    def test_one_wrong_tie_behind_right_ones(self):
        self.assert_told(ties(9) + (("j",) + SLEEPS[1:WHEN] + ("never",),), False)

    def test_a_list_for_a_tuple_at_every_depth(self):
        for place in tuple_places(TIES):
            self.assert_told(with_list_at(TIES, place), False)
        self.assert_told(listed(TIES), False)
        self.assert_told([], False)

    def test_a_tuple_or_a_list_about_any_part(self):
        for place in places(TIES):
            self.assert_told(spoiled(TIES, place, (part_at(TIES, place),)), False)
            self.assert_told(spoiled(TIES, place, [part_at(TIES, place)]), False)

    def test_other_things_for_a_tuple_at_every_depth(self):
        for place in tuple_places(TIES):
            for thing in NO_TUPLES:
                self.assert_told(spoiled(TIES, place, thing), False)
        for nth in range(len(TIES)):
            self.assert_told(spoiled(TIES, (nth,), ()), False)

    def test_a_part_more(self):
        for place in tuple_places(TIES):
            for part in NO_TUPLES:
                self.assert_told(with_part_more(TIES, place, part), False)

    def test_a_part_fewer(self):
        for nth in range(len(TIES)):
            self.assert_told(with_part_fewer(TIES, (nth,)), False)
            self.assert_told(spoiled(TIES, (nth,), TIES[nth][1:]), False)


class TieOfTest(unittest.TestCase):
    def test_each_tie(self):
        for tie in TIES:
            self.assertEqual(tie_of(PLAN, tie[TIE]), tie)
            self.assertEqual(tie_of(plan=PLAN, tie=tie[TIE]), tie)

    def test_a_plan_of_lists_tells_tuples(self):
        for tie in TIES:
            told = tie_of(listed(PLAN), tie[TIE])
            self.assertEqual(told, tie)
            self.assertIs(type(told), tuple)

    def test_a_tie_that_is_not_there(self):
        bare = (TABLES, (), ())
        asked = [(PLAN, "rooms"), (PLAN, "sleep"), (bare, "sleeps"), (listed(PLAN), "none")]
        for plan, tie in asked:
            with self.subTest(plan=plan, tie=tie):
                with self.assertRaises(NoSuch) as caught:
                    tie_of(plan, tie)
                self.assertEqual(caught.exception.what, "tie")
                self.assertEqual(caught.exception.name, tie)

    def test_what_was_told_stays_when_the_plan_is_changed(self):
        plan = listed(PLAN)
        told = tie_of(plan, "sleeps")
        plan[1][0][COLUMN] = "next"
        self.assertEqual(told, SLEEPS)
        self.assertEqual(tie_of(plan, "sleeps")[COLUMN], "next")


class TiesOnTest(unittest.TestCase):
    def test_ties_in_order(self):
        self.assertEqual(ties_on(PLAN, "rooms"), [SLEEPS, OPENS])
        self.assertEqual(ties_on(plan=PLAN, table="beds"), [BESIDE])
        turned = (TABLES, TIES[::-1], ())
        self.assertEqual(ties_on(turned, "rooms"), [OPENS, SLEEPS])

    def test_none(self):
        self.assertEqual(ties_on(PLAN, "keys"), [])
        self.assertEqual(ties_on((TABLES, (), ()), "rooms"), [])

    def test_ten(self):
        self.assertEqual(ties_on((TABLES, ties(10), ()), "rooms"), list(ties(10)))

    def test_a_plan_of_lists_tells_a_list_of_tuples(self):
        told = ties_on(listed(PLAN), "rooms")
        self.assertEqual(told, [SLEEPS, OPENS])
        self.assertIs(type(told), list)
        self.assertEqual([type(tie) for tie in told], [tuple, tuple])

    def test_a_list_of_its_own_each_time(self):
        for plan in (PLAN, listed(PLAN), (TABLES, [SLEEPS, OPENS], ())):
            for table, many in (("rooms", 2), ("keys", 0)):
                told = ties_on(plan, table)
                again = ties_on(plan, table)
                self.assertIsNot(told, again)
                self.assertIsNot(told, plan[1])
                told.append("more")
                self.assertEqual(len(again), many)
                self.assertEqual(len(ties_on(plan, table)), many)

    def test_nothing_handed_in_is_changed(self):
        plan = listed(PLAN)
        ties_on(plan, "rooms").clear()
        tie_of(plan, "opens")
        self.assertEqual(plan, listed(PLAN))
