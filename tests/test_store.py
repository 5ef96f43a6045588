from tests.dice import Dice, cast_deed_there, cast_run
from tests.house import TABLES, plan_of, plan_with, rule, tie
from tests.naive_run import Refused
from tests.naive_store import NaiveStore
from tests.parts import SHAPES, Asking, listed, lists_in, tupled
from tiedtables import errors
from tiedtables.errors import (
    Barred, Loose, NoKey, NoRow, NoSuch, NotOpen, Open, Parted, Ring, Stopped, TableError,
    Taken, TooMany)
from tiedtables.journals import gone_through
from tiedtables.ranks import ranks
from tiedtables.running import ran
from tiedtables.store import Store

DEED = ("deed",)
BARE = [[], [], [], []]
# A bed leans on its room at the end of a dealing, an age on its bed at once.
PLAN = plan_of(
    tie("in", "beds", "room", "rooms", "empty", "carry", "end"),
    tie("of", "age", "bed", "beds", "look", "carry", "once"),
)
HOUSE = [[(1, 4), (2, 6)], [(5, 1, None, None), (6, 2, None, None)], [], [(1, 5)]]
BED = ("put", "beds", (9, 3, None, None))
ROOM = ("put", "rooms", (3, 3))


def told_by(store):
    """All that a store tells of itself."""
    return [store.content(), store.journal(), store.book(), store.is_open(), len(store)]


class StoreAsking(Asking):
    def assert_fields(self, error, fields, ask, *things, **named):
        with self.assertRaises(error) as caught:
            ask(*things, **named)
        self.assertIs(type(caught.exception), error)
        told = {name: getattr(caught.exception, name) for name in fields}
        self.assertEqual(repr(told), repr(fields))

    def assert_stays(self, store, error, fields, ask, *things, book=(), **named):
        """Refused, and nothing is changed but the book, by these rows."""
        before = told_by(store)
        twin = store.twin()
        self.assert_fields(error, fields, ask, *things, **named)
        before[2] = before[2] + list(book)
        self.assertEqual(told_by(store), before)
        self.assertEqual(store, twin)


class MadeTest(StoreAsking):
    def test_without_a_content(self):
        for content in ((), []):
            store = Store(PLAN, content=content)
            self.assertEqual(told_by(store), [BARE, [], [], False, 0])
        self.assertEqual(Store(PLAN).content(), BARE)
        one = (("a", (("k", None),)),)
        self.assertEqual(Store((one, (), ())).content(), [[]])

    def test_with_a_content(self):
        for shape in SHAPES:
            store = Store(shape(PLAN), content=shape(HOUSE), most=40)
            self.assertEqual(repr(told_by(store)), repr([HOUSE, [], [], False, 5]))
        self.assertEqual(Store(plan=PLAN, content=HOUSE).content(), HOUSE)
        self.assertEqual(Store(PLAN, content=BARE).content(), BARE)

    def test_what_is_handed_in_is_not_kept(self):
        plan, content, deed = listed(PLAN), listed(HOUSE), listed(ROOM)
        store = Store(plan, content=content)
        store.do(deed)
        store.begin()
        store.point()
        before, twin = told_by(store), store.twin()
        for part in lists_in((plan, content, deed)):
            part.clear()
        self.assertEqual(told_by(store), before)
        self.assertEqual(store, twin)
        store.do(("drop", "rooms", 1))
        self.assertEqual(store.row("beds", 5), (5, None, None, None))

    def test_what_is_handed_in_is_not_changed(self):
        plan, content = listed(PLAN), listed(HOUSE)
        store = Store(plan, content=content)
        deed = listed(("put", "rooms", (7, 7)))
        before = repr((plan, content, deed))
        store.do(deed)
        store.do(("shift", "rooms", "id", 10))
        self.assertEqual(repr((plan, content, deed)), before)

    def test_ring(self):
        one = rule("a", "row", "age", "put", None, None, (("put", "beds", (1, 1, 1, 1)),))
        two = rule("b", "row", "beds", "put", None, None, (("put", "age", (1, 1)),))
        plan = plan_with((), [one, two])
        ring = ranks(plan)[1]
        for shape in SHAPES:
            self.assert_fields(Ring, {"ring": ring}, Store, shape(plan))
        self.assertEqual(sorted(ring), ["a", "b"])

    def test_ring_goes_ahead_of_loose(self):
        one = rule("a", "row", "age", "put", None, None, (("put", "age", (1, 1)),))
        plan = plan_with(PLAN[1], [one])
        content = [[], [(5, 1, None, None)], [], []]
        self.assert_fields(Ring, {"ring": ["a"]}, Store, plan, content=content)
        self.assert_fields(Ring, {"ring": ["a"]}, Store, plan)

    def test_loose(self):
        content = [[], [(5, 1, None, None)], [], [(1, 5), (2, 6)]]
        for shape in SHAPES:
            self.assert_fields(
                Loose, {"pairs": [("in", 5), ("of", 2)]}, Store, shape(PLAN), content=shape(content))
        for when in ("once", "end"):
            plan = plan_of(tie("t", "age", "bed", "beds", when=when))
            self.assert_fields(Loose, {"pairs": [("t", 1)]}, Store, plan, content=[[], [], [], [(1, 5)]])

    def test_most(self):
        one = rule("r", "row", "rooms", "put", None, None, (("put", "keys", (("new", "id"), 0)),))
        plan = plan_with((), [one])
        self.assert_fields(TooMany, {"most": 1}, Store(plan, most=1).do, ROOM)
        self.assertEqual(len(Store(plan, most=2).do(ROOM)), 2)


class DoTest(StoreAsking):
    def test_told_are_the_entries(self):
        store = Store(PLAN, content=HOUSE)
        self.assertEqual(store.do(deed=ROOM), [(0, "rooms", 3, None, None, (3, 3), DEED)])
        self.assertEqual(store.do(("drop", "rooms", 1)), [
            (1, "rooms", 1, None, (1, 4), None, DEED),
            (1, "beds", 5, "room", 1, None, ("tie", "in", 1))])
        self.assertEqual(store.do(("set", "beds", 5, "id", 8)), [
            (2, "beds", 5, "id", 5, 8, DEED), (2, "age", 1, "bed", 5, 8, ("tie", "of", 3))])
        self.assertEqual(store.content(), [
            [(2, 6), (3, 3)], [(6, 2, None, None), (8, None, None, None)], [], [(1, 8)]])
        self.assertEqual(len(store.journal()), 5)
        self.assertEqual(store.book(), [(0, 0, 1, "done"), (1, 1, 3, "done"), (2, 3, 5, "done")])

    def test_as_ran_does(self):
        one = rule("r", "row", "rooms", "put", None, None, (
            ("put", "keys", (("new", "id"), 0)), ("set", "keys", ("new", "id"), "held", 0),
            ("set", "keys", ("new", "id"), "held", 1)))
        two = rule("s", "deed", "keys", "set", None, None, (("put", "age", (("many",), None)),))
        plan = plan_with(PLAN[1], [one, two])
        store = Store(plan, content=HOUSE[:3] + [[]])
        content, journal = ran(plan, HOUSE[:3] + [[]], ROOM)
        self.assertEqual(store.do(ROOM), journal)
        self.assertEqual([entry[0] for entry in journal], [0, 1, 3, 4])
        self.assertEqual(store.content(), content)

    def test_numbered_on(self):
        """Deeds go on from the greatest number in the journal, entries from its length."""
        one = rule("r", "row", "rooms", "put", None, None, (
            ("put", "keys", (("new", "id"), 0)), ("set", "keys", ("new", "id"), "held", 0)))
        store = Store(plan_with((), [one]))
        for at in range(3):
            self.assertEqual(store.do(("put", "rooms", (at, 0))), [
                (2 * at, "rooms", at, None, None, (at, 0), DEED),
                (2 * at + 1, "keys", at, None, None, (at, 0), ("rule", "r", 2 * at))])
        # The last deed of a run that changed nothing has no entry, nor a number that counts.
        self.assertEqual(store.do(("set", "rooms", 0, "size", 0)), [])
        self.assertEqual(store.do(("set", "rooms", 0, "size", 1)), [
            (6, "rooms", 0, "size", 0, 1, DEED)])

    def test_numbers_from_0_where_the_journal_is_bare(self):
        store = Store(PLAN, content=HOUSE)
        self.assertEqual(store.do(("shift", "rooms", "id", 0)), [])
        self.assertEqual(store.do(ROOM)[0][0], 0)

    def test_as_lists(self):
        store = Store(PLAN, content=HOUSE)
        told = store.do(listed(ROOM)) + store.do(listed(("drop", "rooms", 3)))
        self.assertEqual(repr(told), repr([
            (0, "rooms", 3, None, None, (3, 3), DEED), (1, "rooms", 3, None, (3, 3), None, DEED)]))

    def refusals(self):
        ties = (
            tie("bar", "keys", "held", "beds", "bar", "look", "end"), *PLAN[1],
            tie("one", "age", "id", "keys", "look", "look", "end"),
            tie("part", "beds", "next", "rooms", "empty"), tie("ed", "beds", "next", "rooms", "fallback"))
        rules = [
            rule("no", "ahead", "rooms", "put", None, (("new", "size"), "like", 99)),
            rule("key", "row", "rooms", "put", None, (("new", "size"), "like", 98), (
                ("set", "rooms", 1, "id", None),)),
            rule("ever", "row", "rooms", "put", None, (("new", "size"), "like", 97), (
                ("set", "rooms", 1, "size", 1),) * 3),
        ]
        content = [HOUSE[0], [(5, 1, 2, None), (6, 2, None, None)], [(1, 6)], [(1, 5)]]
        store = Store(plan_with(ties, rules), content=content, most=3)
        return store, (
            (NoRow, {"table": "rooms", "key": 7}, ("drop", "rooms", 7), "refused"),
            (Taken, {"table": "rooms", "key": 1}, ("put", "rooms", (1, 1)), "refused"),
            (Taken, {"table": "rooms", "key": 2}, ("set", "rooms", 1, "id", 2), "refused"),
            (Barred, {"tie": "bar", "key": 1}, ("drop", "beds", 6), "refused"),
            (Parted, {"table": "beds", "key": 5, "column": "next"}, ("drop", "rooms", 2), "refused"),
            (Stopped, {"rule": "no", "table": "rooms", "key": 4}, ("put", "rooms", (4, 99)), "refused"),
            (NoKey, {"rule": "key"}, ("put", "rooms", (4, 98)), "refused"),
            (TooMany, {"most": 3}, ("put", "rooms", (4, 97)), "refused"),
            (Loose, {"pairs": [("of", 1)]}, ("drop", "beds", 5), "refused"),
            (Loose, {"pairs": [("in", 9)]}, BED, "loose"),
            (Loose, {"pairs": [("one", 1)]}, ("drop", "keys", 1), "loose"),
        )

    def test_refused_by_itself(self):
        """Nothing is changed but the book, by a row of a dealing that was not done."""
        store, refusals = self.refusals()
        store.do(("put", "keys", (8, None)))
        for number, (error, fields, deed, word) in enumerate(refusals, 1):
            with self.subTest(deed=deed):
                row = (number, 1, 1, word)
                self.assert_stays(store, error, fields, store.do, deed, book=[row])
        self.assertEqual(store.do(("put", "keys", (9, None)))[0][0], 1)

    def test_refused_within_a_dealing(self):
        """It undoes itself alone and has no row in the book; ties of "end" are not looked at."""
        store, refusals = self.refusals()
        store.begin()
        store.do(("put", "keys", (8, None)))
        for error, fields, deed, word in refusals:
            if word == "refused":
                with self.subTest(deed=deed):
                    self.assert_stays(store, error, fields, store.do, deed)
        self.assertEqual(len(store.do(BED)), 1)
        self.assertEqual(len(store.do(("drop", "keys", 1))), 1)
        self.assertEqual(store.book(), [])

    def test_once_goes_ahead_of_end(self):
        plan = plan_of(
            tie("end", "beds", "room", "rooms", when="end"), tie("once", "beds", "next", "keys", when="once"))
        store = Store(plan)
        deed = ("put", "beds", (1, 1, 1, 1))
        self.assert_fields(Loose, {"pairs": [("once", 1)]}, store.do, deed)
        self.assertEqual(store.book(), [(0, 0, 0, "refused")])

    def test_what_stands_at_the_end_of_the_deeds_own_dealing_is_looked_at(self):
        """A rule that puts in what is leant on makes the deed hold."""
        one = rule("r", "row", "beds", "put", None, None, (("put", "rooms", (("new", "room"), 0)),))
        store = Store(plan_with(PLAN[1], [one]))
        self.assertEqual(len(store.do(BED)), 2)
        self.assert_fields(Loose, {"pairs": [("in", 9)]}, Store(PLAN).do, BED)


class AskingTest(StoreAsking):
    def setUp(self):
        self.store = Store(PLAN, content=HOUSE)
        self.store.do(ROOM)
        self.store.do(("drop", "rooms", 1))

    def test_row(self):
        self.assertEqual(repr(self.store.row("rooms", 2)), "(2, 6)")
        self.assertEqual(self.store.row(table="beds", key=5), (5, None, None, None))
        self.assertIsNone(self.store.row("rooms", 1))
        self.assertIsNone(self.store.row("keys", 0))
        self.assert_fields(NoSuch, {"what": "table", "name": "halls"}, self.store.row, "halls", 1)

    def test_len(self):
        self.assertEqual(len(self.store), 5)
        self.assertEqual(len(Store(PLAN)), 0)
        self.store.do(("sweep", "age", "bed", 5))
        self.assertEqual(len(self.store), 4)

    def test_journal_from_a_number_on(self):
        journal = self.store.journal()
        self.assertEqual([entry[:3] for entry in journal], [
            (0, "rooms", 3), (1, "rooms", 1), (1, "beds", 5)])
        for first in range(5):
            self.assertEqual(self.store.journal(first=first), journal[first:])
        self.assertEqual(self.store.journal(first=10 ** 9), [])
        # Whatever number they count from, all entries stand from there on.
        self.assertEqual(self.store.journal(first=-1), journal)
        with self.assertRaises(TypeError):
            self.store.journal(1)

    def test_what_is_told_is_the_askers_own(self):
        self.store.begin()
        self.store.point()
        told = [self.store.content(), self.store.journal(), self.store.book(), self.store.why(2),
                self.store.do(("put", "keys", (1, 1)))]
        before = told_by(self.store)
        again = [self.store.content(), self.store.journal(), self.store.book(), self.store.why(2)]
        lists = lists_in(told) + lists_in(again)
        self.assertEqual(len({id(part) for part in lists}), len(lists))
        for part in lists:
            part.append("more")
        self.assertEqual(told_by(self.store), before)
        self.assertEqual(self.store.why(2), [2, 1])
        self.store.back()
        self.assertEqual(len(self.store.content()), 4)
        self.assertEqual(len(self.store.journal()), 3)

    def test_rows_told_are_tuples(self):
        store = Store(listed(PLAN), content=listed(HOUSE))
        store.do(listed(ROOM))
        for rows in store.content():
            for row in rows:
                self.assertIsInstance(row, tuple)
        self.assertEqual(repr(store.journal()), repr([(0, "rooms", 3, None, None, (3, 3), DEED)]))
        self.assertEqual(repr(store.book()), repr([(0, 0, 1, "done")]))


class LikeTest(StoreAsking):
    def test_by_plan_and_content_alone(self):
        one, other = Store(PLAN, content=HOUSE), Store(listed(PLAN), content=tupled(HOUSE), most=3)
        self.assertTrue(one == other)
        self.assertFalse(one != other)
        other.do(ROOM)
        self.assertFalse(one == other)
        self.assertTrue(one != other)
        other.do(("drop", "rooms", 3))
        other.begin()
        other.point()
        self.assertTrue(one == other)
        one.do(ROOM)
        other.do(ROOM)
        self.assertTrue(one == other)

    def test_other_plans(self):
        one = Store(PLAN)
        for plan in ((TABLES, (), ()), (TABLES, PLAN[1][::-1], ()), (TABLES[::-1], PLAN[1], ()),
                     (TABLES, PLAN[1], (rule("a", "ahead", "age", "put", None, (1, "like", 2)),))):
            self.assertFalse(one == Store(plan))
            self.assertTrue(one != Store(plan))

    def test_other_kinds(self):
        store = Store(PLAN, content=HOUSE)
        for other in (None, 0, True, "", (), [], HOUSE, PLAN, (PLAN, HOUSE), Store, {}):
            self.assertFalse(store == other)
            self.assertTrue(store != other)
            self.assertFalse(other == store)


class DealingTest(StoreAsking):
    def setUp(self):
        self.store = Store(PLAN, content=HOUSE)

    def rooms(self):
        return [key for key, _ in self.store.content()[0]]

    def put(self, *keys):
        for key in keys:
            self.store.do(("put", "rooms", (key, 0)))

    def test_none_is_open(self):
        store = self.store
        for ask, named in ((store.point, {}), (store.point, {"name": "a"}), (store.back, {}),
                           (store.back, {"to": "a"}), (store.leave, {}), (store.end, {})):
            with self.subTest(ask=ask.__name__, named=named):
                self.assert_stays(store, NotOpen, {}, ask, **named)
        self.assertIs(store.is_open(), False)

    def test_begin_and_end(self):
        self.assertIsNone(self.store.begin())
        self.assertIs(self.store.is_open(), True)
        self.assertEqual(self.store.book(), [])
        self.put(3, 4)
        self.assertEqual(self.store.end(), 0)
        self.assertIs(self.store.is_open(), False)
        self.assertEqual(self.rooms(), [1, 2, 3, 4])
        self.assertEqual(self.store.book(), [(0, 0, 2, "done")])
        self.test_none_is_open_again()

    def test_none_is_open_again(self):
        for ask in (self.store.point, self.store.back, self.store.leave, self.store.end):
            self.assert_stays(self.store, NotOpen, {}, ask)

    def test_begin_within_a_dealing(self):
        self.store.begin()
        self.put(3)
        self.store.point(name="a")
        self.assert_stays(self.store, Open, {}, self.store.begin)
        self.put(4)
        self.store.back(to="a")
        self.assertEqual(self.rooms(), [1, 2, 3])

    def test_a_bare_dealing(self):
        self.store.begin()
        self.assertEqual(self.store.end(), 0)
        self.store.begin()
        self.store.leave()
        self.assertEqual(self.store.book(), [(0, 0, 0, "done"), (1, 0, 0, "left")])

    def test_leave(self):
        self.put(3)
        self.store.begin()
        self.put(4)
        self.store.do(("drop", "rooms", 1))
        self.assertIsNone(self.store.leave())
        self.assertIs(self.store.is_open(), False)
        self.assertEqual(self.store.content(), [[*HOUSE[0], (3, 0)], *HOUSE[1:]])
        self.assertEqual(len(self.store.journal()), 1)
        self.assertEqual(self.store.book(), [(0, 0, 1, "done"), (1, 1, 1, "left")])
        self.test_none_is_open_again()
        # Numbers come anew.
        self.assertEqual(self.store.do(("put", "rooms", (9, 0)))[0][0], 1)
        self.assertEqual(self.store.book()[2], (2, 1, 2, "done"))

    def test_numbers_of_the_book_are_its_places(self):
        self.put(3)
        self.store.begin()
        self.store.leave()
        with self.assertRaises(NoRow):
            self.store.do(("drop", "rooms", 77))
        self.store.begin()
        self.put(4, 5)
        self.assertEqual(self.store.end(), 3)
        with self.assertRaises(Loose):
            self.store.do(BED[:2] + ((9, 99, None, None),))
        self.assertEqual(self.store.book(), [
            (0, 0, 1, "done"), (1, 1, 1, "left"), (2, 1, 1, "refused"), (3, 1, 3, "done"),
            (4, 3, 3, "loose")])

    def test_loose_while_open(self):
        """What is loose on the way is not seen at the end, if it holds there."""
        self.store.begin()
        self.store.do(BED)
        self.store.do(ROOM)
        self.assertEqual(self.store.end(), 0)
        self.store.begin()
        self.store.do(("drop", "rooms", 3))
        self.store.do(("put", "beds", (10, 3, None, None)))
        self.store.do(("drop", "beds", 10))
        self.assertEqual(self.store.end(), 1)

    def test_a_loose_end_undoes_all_and_is_over(self):
        self.put(8)
        self.store.begin()
        self.put(9)
        self.store.do(BED)
        self.store.do(("put", "beds", (4, 7, None, None)))
        self.store.point(name="a")
        before = self.store.twin()
        before.leave()
        self.assert_fields(Loose, {"pairs": [("in", 4), ("in", 9)]}, self.store.end)
        self.assertEqual(self.store, before)
        self.assertEqual(self.store.journal(), before.journal())
        self.assertEqual(self.store.book(), [(0, 0, 1, "done"), (1, 1, 1, "loose")])
        self.assertIs(self.store.is_open(), False)
        self.test_none_is_open_again()
        self.store.begin()
        self.assert_stays(self.store, NoSuch, {"what": "point", "name": "a"}, self.store.back, to="a")
        self.put(3)
        self.assertEqual(self.store.end(), 2)
        self.assertEqual(self.rooms(), [1, 2, 3, 8])

    def test_a_refused_deed_undoes_itself_alone(self):
        self.store.begin()
        self.put(3)
        self.assert_stays(self.store, Taken, {"table": "rooms", "key": 3}, self.store.do, ROOM)
        self.put(4)
        self.assertEqual(self.store.end(), 0)
        self.assertEqual(self.rooms(), [1, 2, 3, 4])
        self.assertEqual([entry[0] for entry in self.store.journal()], [0, 1])


class PointsTest(StoreAsking):
    def setUp(self):
        self.store = Store(PLAN, content=HOUSE)
        self.store.begin()

    def rooms(self):
        return [key for key, _ in self.store.content()[0]]

    def put(self, *keys):
        for key in keys:
            self.store.do(("put", "rooms", (key, 0)))

    def assert_back(self, rooms, to=""):
        self.assertIsNone(self.store.back(to=to))
        self.assertEqual(self.rooms(), rooms)
        self.assertEqual(len(self.store.journal()), len(rooms) - 2)
        self.assertEqual(self.store.book(), [])
        self.assertIs(self.store.is_open(), True)

    def assert_no_point(self, name):
        self.assert_stays(
            self.store, NoSuch, {"what": "point", "name": name}, self.store.back, to=name)

    def test_back_to_a_point(self):
        self.put(3)
        self.assertIsNone(self.store.point(name="a"))
        self.put(4, 5)
        self.assert_back([1, 2, 3], "a")
        # It stays.
        self.put(6)
        self.assert_back([1, 2, 3], "a")
        self.assert_back([1, 2, 3], "a")

    def test_back_to_the_begin(self):
        self.put(3, 4)
        self.assert_back([1, 2])
        self.put(5)
        self.store.back()
        self.assertEqual(self.rooms(), [1, 2])

    def test_a_point_without_a_name(self):
        self.put(3)
        self.store.point()
        self.put(4)
        self.assert_back([1, 2, 3])
        self.put(5)
        self.store.point(name="")
        self.put(6)
        self.assert_back([1, 2, 3, 5])

    def test_the_begin_again_where_that_point_is_no_more(self):
        self.put(3)
        self.store.point(name="a")
        self.put(4)
        self.store.point()
        self.put(5)
        self.assert_back([1, 2, 3, 4])
        self.assert_back([1, 2, 3], "a")
        self.assert_back([1, 2])
        self.assert_no_point("a")

    def test_later_points_are_no_more(self):
        for key, name in ((3, "a"), (4, "b"), (5, "c")):
            self.put(key)
            self.store.point(name=name)
        self.put(6)
        self.assert_back([1, 2, 3, 4], "b")
        self.assert_no_point("c")
        self.assert_back([1, 2, 3, 4], "b")
        self.assert_back([1, 2, 3], "a")
        self.assert_no_point("b")

    def test_a_point_told_anew(self):
        self.put(3)
        self.store.point(name="a")
        self.put(4)
        self.store.point(name="b")
        self.put(5)
        self.store.point(name="a")
        self.put(6)
        self.assert_back([1, 2, 3, 4, 5], "a")
        self.assert_back([1, 2, 3, 4], "b")
        # The earlier one so called went with the telling, the later one with the way back.
        self.assert_no_point("a")

    def test_no_such_point(self):
        self.put(3)
        self.store.point(name="a")
        for name in ("b", "aa", "zzzzzzzz"):
            self.assert_no_point(name)

    def test_points_of_an_earlier_dealing_are_no_more(self):
        self.store.point(name="a")
        self.store.point()
        self.put(3)
        self.store.end()
        self.store.begin()
        self.put(4)
        with self.assertRaises(NoSuch):
            self.store.back(to="a")
        self.store.back()
        self.assertEqual(self.rooms(), [1, 2, 3])
        self.store.point(name="b")
        self.store.leave()
        self.store.begin()
        with self.assertRaises(NoSuch):
            self.store.back(to="b")

    def test_numbers_come_anew(self):
        self.put(3)
        self.store.point(name="a")
        one = self.store.do(("put", "rooms", (4, 0)))
        self.store.back(to="a")
        other = self.store.do(("put", "rooms", (5, 0)))
        self.assertEqual([one[0][0], other[0][0]], [1, 1])
        self.store.back()
        self.assertEqual(self.store.do(("put", "rooms", (6, 0)))[0][0], 0)
        self.assertEqual(self.store.end(), 0)
        self.assertEqual(self.store.book(), [(0, 0, 1, "done")])

    def test_points_are_told_by_names_alone(self):
        with self.assertRaises(TypeError):
            self.store.point("a")
        with self.assertRaises(TypeError):
            self.store.back("a")


class SinceWhyTwinTest(StoreAsking):
    def setUp(self):
        self.store = store = Store(PLAN, content=HOUSE, most=7)
        store.do(ROOM)                                  # 0
        with self.assertRaises(Taken):
            store.do(ROOM)                              # 1
        store.begin()
        store.do(("drop", "rooms", 1))
        store.do(BED)
        store.end()                                     # 2
        store.begin()
        store.do(("put", "rooms", (8, 8)))
        store.leave()                                   # 3
        store.do(("set", "rooms", 3, "id", 4))          # 4

    def test_since(self):
        first, third, fourth = (self.store.since(number) for number in (0, 2, 4))
        rooms, beds = HOUSE[0] + [(3, 3)], HOUSE[1]
        journal, book = self.store.journal(), self.store.book()
        self.assertEqual(told_by(first), [[rooms, *HOUSE[1:]], journal[:1], book[:1], False, 6])
        beds = [(5, None, None, None), (6, 2, None, None), (9, 3, None, None)]
        self.assertEqual(told_by(third), [
            [rooms[1:], beds, *HOUSE[2:]], journal[:4], book[:3], False, 6])
        self.assertEqual(told_by(fourth), told_by(self.store))
        self.assertEqual(fourth, self.store)
        self.assertNotEqual(first, self.store)
        self.assertEqual(told_by(self.store.since(number=0)), told_by(first))

    def test_since_none_that_was_done(self):
        for number in (1, 3, 5, 6, 10 ** 9, -1, -5):
            self.assert_stays(
                self.store, NoSuch, {"what": "dealing", "name": number}, self.store.since, number)
        self.assert_fields(NoSuch, {"what": "dealing", "name": 0}, Store(PLAN).since, 0)

    def test_since_goes_on_by_itself(self):
        before = told_by(self.store)
        other = self.store.since(2)
        self.assertEqual(other.do(("drop", "beds", 9))[0][0], 3)
        self.assertEqual(other.book()[3:], [(3, 4, 5, "done")])
        self.assertEqual(told_by(self.store), before)
        self.assertEqual(told_by(other.since(0)), told_by(self.store.since(0)))
        self.assertEqual(len(other.since(2)), 6)
        self.assertEqual(told_by(other.since(3)), told_by(other))
        self.assert_fields(NoSuch, {"what": "dealing", "name": 4}, other.since, 4)
        self.store.do(("drop", "age", 1))
        self.assertEqual(len(other), 5)

    def test_since_while_one_is_open(self):
        self.store.begin()
        self.store.do(("put", "rooms", (8, 8)))
        self.store.point(name="a")
        other = self.store.since(4)
        self.assertIs(other.is_open(), False)
        self.assertEqual(len(other.journal()), 6)
        self.assertIsNone(other.row("rooms", 8))
        self.assert_fields(NotOpen, {}, other.back, to="a")
        self.assertEqual(self.store.row("rooms", 8), (8, 8))
        other.begin()
        self.assert_fields(NoSuch, {"what": "point", "name": "a"}, other.back, to="a")

    def test_since_keeps_plan_and_most(self):
        one = rule("r", "row", "rooms", "put", None, None, (("put", "keys", (("new", "id"), 0)),))
        store = Store(plan_with((), [one]), most=1)
        store.do(("put", "age", (1, 1)))
        for other in (store.since(0), store.twin()):
            self.assert_fields(TooMany, {"most": 1}, other.do, ROOM)

    def test_why(self):
        self.assertEqual([self.store.why(number) for number in range(6)], [
            [0], [1], [2, 1], [3], [4], [5, 4]])
        self.assertEqual(self.store.why(number=2), [2, 1])
        for number in (6, 7, 10 ** 9, -1, -6):
            self.assert_stays(
                self.store, NoSuch, {"what": "entry", "name": number}, self.store.why, number)
        self.assert_fields(NoSuch, {"what": "entry", "name": 0}, Store(PLAN).why, 0)

    def test_why_of_an_open_dealing(self):
        self.store.begin()
        self.store.do(("drop", "rooms", 4))
        self.assertEqual(self.store.why(7), [7, 6])
        self.store.back()
        self.assert_fields(NoSuch, {"what": "entry", "name": 6}, self.store.why, 6)

    def test_twin(self):
        twin = self.store.twin()
        self.assertIsInstance(twin, Store)
        self.assertEqual(told_by(twin), told_by(self.store))
        self.assertEqual(twin, self.store)
        before = told_by(self.store)
        twin.begin()
        twin.do(("drop", "beds", 9))
        twin.end()
        self.assertEqual(told_by(self.store), before)
        for number in (0, 2, 4):
            self.assertEqual(told_by(twin.since(number)), told_by(self.store.since(number)))

    def test_twin_of_an_open_dealing(self):
        store = self.store
        store.begin()
        store.do(("put", "rooms", (7, 7)))
        store.point(name="a")
        store.do(("put", "rooms", (8, 8)))
        store.point()
        twin = store.twin()
        self.assertEqual(told_by(twin), told_by(store))
        twin.do(("put", "rooms", (9, 9)))
        twin.back()
        self.assertEqual(told_by(twin), told_by(store))
        twin.back(to="a")
        self.assertEqual(twin.end(), 5)
        self.assertIs(store.is_open(), True)
        self.assertEqual(store.row("rooms", 8), (8, 8))
        store.point(name="b")
        store.leave()
        self.assertEqual(store.book()[5], (5, 6, 6, "left"))
        self.assertEqual(twin.book()[5], (5, 6, 7, "done"))
        self.assertEqual(twin.row("rooms", 7), (7, 7))
        self.assertIsNone(store.row("rooms", 7))


class WalkTest(StoreAsking):
    """Long walks of calls, held against a slow keeping."""
    CALLS = (
        ("begin", {}), ("begin", {}), ("point", {}), ("point", {"name": "a"}),
        ("point", {"name": "b"}), ("back", {}), ("back", {"to": "a"}), ("back", {"to": "b"}),
        ("back", {"to": "c"}), ("leave", {}), ("end", {}), ("end", {}), ("twin", {}))

    def outcome(self, store, call, *things, **named):
        try:
            return getattr(store, call)(*things, **named)
        except Refused as refused:
            return refused.args[:2] if refused.args[0] == "Loose" else refused.args
        except (TableError, NoSuch) as error:
            self.assertIs(type(error), getattr(errors, type(error).__name__))
            return (type(error).__name__, *vars(error).values())

    def assert_alike(self, real, slow):
        self.assertEqual(real.content(), slow.content())
        self.assertEqual(real.journal(), slow.journal())
        self.assertEqual(real.book(), slow.book())
        self.assertEqual(real.is_open(), slow.is_open())
        behind = gone_through(slow.plan[0], slow.start, real.journal())
        self.assertEqual(behind, real.content())

    def cast_call(self, dice, slow):
        if dice.below(2):
            return "do", (cast_deed_there(dice, slow.plan, slow.content()),), {}
        if dice.below(5) == 0:
            return dice.one_of(("since", "why")), (dice.below(12) - 1,), {}
        name, named = dice.one_of(self.CALLS)
        return name, (), named

    def walk(self, seed, seen):
        plan, content, _ = cast_run(seed)
        if ranks(plan)[1] is not None:
            return
        dice = Dice(seed * 3 + 1)
        most = dice.one_of((2, 4, 40))
        real, slow = Store(plan, content=content, most=most), NaiveStore(plan, content, most)
        for _ in range(30):
            name, things, named = self.cast_call(dice, slow)
            told = self.outcome(real, name, *things, **named)
            answer = self.outcome(slow, name, *things, **named)
            if isinstance(answer, NaiveStore):
                self.assert_alike(told, answer)
                if dice.below(2):
                    real, slow = told, answer
            else:
                self.assertEqual(told, answer)
            kind = answer[0] if isinstance(answer, tuple) else name
            seen[kind] = seen.get(kind, 0) + 1
            self.assert_alike(real, slow)

    def test_walks(self):
        seen = {}
        for seed in range(150):
            with self.subTest(seed=seed):
                self.walk(seed, seen)
        for kind in ("do", "begin", "point", "back", "leave", "end", "since", "why", "twin", "Open",
                     "NotOpen", "NoSuch", "Loose", "Taken", "NoRow", "Stopped", "Barred", "TooMany"):
            self.assertGreater(seen.get(kind, 0), 2, kind)
