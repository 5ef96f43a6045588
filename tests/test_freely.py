from tests import naive
from tests.dice import Dice, cast
from tests.house import plan_of, tie
from tests.parts import (
    NO_TUPLES, Asking, listed, part_at, places, spoiled, tuple_places, tupled,
    with_list_at, with_part_fewer, with_part_more)
from tiedtables.carrying import brought, carried
from tiedtables.errors import TableError, Taken
from tiedtables.freely import ended, shows_order, steps_next

GOING = plan_of(
    tie("in", "beds", "room", "rooms", "carry"),
    tie("by", "beds", "next", "beds", "carry"),
    tie("of", "age", "bed", "beds", "empty"),
    tie("old", "beds", "back", "rooms", "fallback"),
)
# Bed 5 goes by bed 4, and may lose its back to room 1 ahead of that.
FULL = [
    [(1, 0), (2, 0)],
    [(4, 1, None, None), (5, None, 4, 1), (6, 2, None, None)],
    [],
    [(1, 5), (2, 6)],
]
DROP = ("drop", "rooms", 1)
ROOM = ("gone", "rooms", 1)
FOUR = ("gone", "beds", 4)
FIVE = ("gone", "beds", 5)
BACK = ("cell", "beds", 5, "back", None)
LOST = ("cell", "age", 1, "bed", None)
BEHIND = [[(2, 0)], [(6, 2, None, None)], [], [(1, None), (2, 6)]]

TURNING = plan_of(
    tie("kr", "keys", "room", "rooms", "bar", "carry"),
    tie("ak", "age", "id", "keys", "bar", "carry"),
    tie("in", "beds", "next", "keys", "bar", "fallback"),
)
ROUND = [[(1, 0)], [(3, 1, 1, 0)], [(1, 1), (2, 1)], [(1, 0), (2, 0)]]
SHIFT = ("shift", "rooms", "id", 6)
TURN = ("cell", "rooms", 1, "id", 7)
KEY = ("cell", "keys", 1, "room", 7)
AGE = ("cell", "age", 1, "id", 7)
BED = ("cell", "beds", 3, "next", 7)


def orders(plan, content, deed, ahead=()):
    """Every whole order, of deeds with few steps."""
    told = steps_next(plan, content, deed, list(ahead))
    if not told:
        return [list(ahead)]
    return [order for step in told for order in orders(plan, content, deed, (*ahead, step))]


class StepsNextTest(Asking):
    def assert_next(self, answer, steps, plan=GOING, content=FULL, deed=DROP):
        self.assert_tells(answer, steps_next, plan, content, deed, steps)

    def test_what_the_deed_does_by_itself(self):
        self.assert_next([ROOM], [])
        self.assert_next([TURN], [], TURNING, ROUND, SHIFT)
        told = steps_next(plan=GOING, content=FULL, deed=DROP, steps=[])
        self.assertEqual(told, [ROOM])

    def test_one_behind_the_other(self):
        self.assert_next([FOUR, BACK], [ROOM])
        self.assert_next([FIVE, BACK], [ROOM, FOUR])
        self.assert_next([LOST], [ROOM, FOUR, FIVE])
        self.assert_next([], [ROOM, FOUR, FIVE, LOST])

    def test_a_cell_of_a_row_that_goes_later(self):
        self.assert_next([FOUR], [ROOM, BACK])
        self.assert_next([FIVE], [ROOM, BACK, FOUR])
        self.assert_next([LOST], [ROOM, BACK, FOUR, FIVE])
        self.assert_next([], [ROOM, FOUR, BACK, FIVE, LOST])

    def test_keys_that_are_turned(self):
        self.assert_next([KEY], [TURN], TURNING, ROUND, SHIFT)
        content = [ROUND[0], [(3, 1, 2, 0)], ROUND[2], ROUND[3]]
        self.assert_next([AGE], [TURN, KEY], TURNING, content, SHIFT)
        self.assert_next([BED, AGE], [TURN, KEY], TURNING, ROUND, SHIFT)
        self.assert_next([AGE], [TURN, KEY, BED], TURNING, ROUND, SHIFT)
        self.assert_next([], [TURN, KEY, BED, AGE], TURNING, ROUND, SHIFT)

    def test_a_cell_brought_to_its_own_worth_is_a_step(self):
        plan = plan_of(tie("a", "beds", "next", "rooms", "fallback", "fallback"))
        content = [[(7, 0)], [(1, None, 7, None)], [], []]
        deed, step = ("drop", "rooms", 7), ("cell", "beds", 1, "next", 7)
        self.assert_next([step], [("gone", "rooms", 7)], plan, content, deed)
        self.assert_next([], [("gone", "rooms", 7), step], plan, content, deed)
        answer = [[], content[1], [], []]
        steps = [("gone", "rooms", 7), step]
        self.assert_tells(answer, ended, plan, content, deed, steps)

    def test_a_row_put_in_is_no_step(self):
        self.assert_next([], [], deed=("put", "rooms", (9, 9)))

    def test_deeds_that_do_nothing(self):
        for deed in (("set", "rooms", 1, "id", 1), ("sweep", "rooms", "size", 9),
                     ("shift", "rooms", "id", 0)):
            self.assert_next([], [], deed=deed)

    def test_two_unlike_worths_of_a_row_that_goes_later(self):
        plan = plan_of(
            tie("a", "beds", "room", "rooms", "empty"),
            tie("b", "beds", "room", "rooms", "fallback"),
            tie("c", "beds", "next", "rooms", "carry"),
        )
        content = [[(1, 0)], [(3, 1, 1, 1)], [], []]
        gone = ("gone", "beds", 3)
        none, low = ("cell", "beds", 3, "room", None), ("cell", "beds", 3, "room", -1)
        self.assert_next([gone, none, low], [ROOM], plan, content)
        self.assert_next([gone, none], [ROOM, low], plan, content)
        self.assert_next([gone], [ROOM, low, none], plan, content)
        self.assert_next([], [ROOM, low, none, gone], plan, content)
        self.assert_next([], [ROOM, gone], plan, content)
        for steps in ([ROOM, low, none, gone], [ROOM, none, gone], [ROOM, gone]):
            self.assert_answers(True, shows_order, plan, content, DROP, steps)
            self.assert_tells([[], [], [], []], ended, plan, content, DROP, steps)
        for steps in ([ROOM, gone, low], [ROOM, low, none]):
            self.assert_answers(False, shows_order, plan, content, DROP, steps)

    def test_the_list_rises(self):
        ties = (
            tie("a", "age", "bed", "beds", "carry"),
            tie("b", "rooms", "size", "beds", "carry"),
            tie("c", "beds", "back", "beds", "empty"),
            tie("d", "beds", "next", "beds", "fallback"),
            tie("e", "keys", "held", "beds", "empty"),
        )
        content = [[(1, 4), (2, 3)], [(3, 0, 4, 4), (4, 0, 0, 0), (5, 0, 1, 4)],
                   [(1, 4)], [(1, 4), (9, 9)]]
        answer = [
            ("gone", "rooms", 1), ("gone", "age", 1),
            ("cell", "beds", 3, "next", 7), ("cell", "beds", 3, "back", None),
            ("cell", "beds", 5, "back", None), ("cell", "keys", 1, "held", None),
        ]
        steps = [("gone", "beds", 4)]
        self.assert_next(answer, steps, plan_of(*ties), content, ("drop", "beds", 4))

    def test_what_is_left_of_the_deed_itself_stands_among_the_others(self):
        deed = ("sweep", "rooms", "size", 0)
        two, six = ("gone", "rooms", 2), ("gone", "beds", 6)
        self.assert_next([ROOM, two], [], deed=deed)
        self.assert_next([ROOM, six], [two], deed=deed)
        self.assert_next([two, FOUR, BACK], [ROOM], deed=deed)
        self.assert_next([ROOM, ("cell", "age", 2, "bed", None)], [two, six], deed=deed)

    def test_rows_that_lean_round_and_on_themselves(self):
        plan = plan_of(tie("a", "beds", "next", "beds", "carry", "carry"))
        content = [[], [(4, 0, 5, 0), (5, 0, 4, 0), (6, 0, 6, 0)], [], []]
        deed = ("drop", "beds", 4)
        self.assert_next([FIVE], [FOUR], plan, content, deed)
        self.assert_next([], [FOUR, FIVE], plan, content, deed)
        deed = ("drop", "beds", 6)
        self.assert_next([], [("gone", "beds", 6)], plan, content, deed)
        deed = ("set", "beds", 6, "id", 8)
        step = ("cell", "beds", 6, "id", 8)
        self.assert_next([("cell", "beds", 6, "next", 8)], [step], plan, content, deed)

    def test_sixty_rows_one_on_the_other(self):
        plan = plan_of(tie("by", "beds", "next", "beds", "carry"))
        beds = [(at, None, at - 1 if at else None, None) for at in range(60)]
        content = [[], beds, [], []]
        deed = ("drop", "beds", 0)
        steps = [("gone", "beds", at) for at in range(60)]
        for at in range(61):
            self.assertEqual(steps_next(plan, content, deed, steps[:at]), steps[at:at + 1])
        self.assert_answers(True, shows_order, plan, content, deed, steps)
        self.assert_answers(False, shows_order, plan, content, deed, steps[:-1])
        self.assert_answers(False, shows_order, plan, content, deed, steps[::-1])
        self.assert_tells([[], [], [], []], ended, plan, content, deed, steps)


class EndedTest(Asking):
    def assert_ended(self, answer, steps, plan=GOING, content=FULL, deed=DROP):
        self.assert_tells(answer, ended, plan, content, deed, steps)

    def test_whole_orders(self):
        told = orders(GOING, FULL, DROP)
        self.assertEqual(len(told), 3)
        for steps in told:
            self.assert_ended(BEHIND, steps)
        self.assertEqual(ended(plan=GOING, content=FULL, deed=DROP, steps=told[0]), BEHIND)

    def test_cells_of_rows_that_go_are_left_aside(self):
        for steps in ([ROOM, BACK, FOUR, FIVE, LOST], [ROOM, FOUR, BACK, FIVE, LOST]):
            self.assert_ended(BEHIND, steps)

    def test_keys_are_those_ahead(self):
        answer = [[(7, 0)], [(3, 1, 7, 0)], [(2, 1), (7, 1)], [(2, 0), (7, 0)]]
        told = orders(TURNING, ROUND, SHIFT)
        self.assertEqual(told, [[TURN, KEY, BED, AGE], [TURN, KEY, AGE, BED]])
        for steps in told:
            self.assert_ended(answer, steps, TURNING, ROUND, SHIFT)

    def test_a_row_put_in(self):
        answer = [FULL[0] + [(9, 9)]] + FULL[1:]
        self.assert_ended(answer, [], deed=("put", "rooms", (9, 9)))

    def test_refused_as_changed(self):
        fields = {"table": "rooms", "key": 2}
        deed = ("set", "rooms", 1, "id", 2)
        steps = [("cell", "rooms", 1, "id", 2)]
        self.assert_refused(Taken, fields, ended, GOING, FULL, deed, steps)
        content = [ROUND[0], [], [(1, 0), (2, 0)], [(1, 0), (2, 0)]]
        fields = {"table": "keys", "key": 2}
        steps = [("cell", "rooms", 1, "id", 2), ("cell", "keys", 1, "room", 2)]
        steps.append(("cell", "age", 1, "id", 2))
        self.assert_refused(Taken, fields, ended, TURNING, content, deed, steps)

    def test_ties_that_are_loose_then_are_not_asked(self):
        plan = plan_of(tie("a", "beds", "room", "rooms", when="once"))
        self.assert_ended([FULL[0][1:]] + FULL[1:], [ROOM], plan)
        self.assertRaises(TableError, carried, plan, FULL, DROP)


class ShowsOrderTest(Asking):
    ORDER = [ROOM, BACK, FOUR, FIVE, LOST]

    def assert_order(self, answer, thing, plan=GOING, content=FULL, deed=DROP):
        self.assert_answers(answer, shows_order, plan, content, deed, thing)

    def test_whole_orders(self):
        for steps in orders(GOING, FULL, DROP):
            self.assert_order(True, steps)
        for steps in orders(TURNING, ROUND, SHIFT):
            self.assert_order(True, steps, TURNING, ROUND, SHIFT)
        told = shows_order(plan=GOING, content=FULL, deed=DROP, thing=self.ORDER)
        self.assertIs(told, True)

    def test_nothing_to_be_done(self):
        for deed in (("put", "rooms", (9, 9)), ("sweep", "rooms", "size", 9)):
            self.assert_order(True, [], deed=deed)
            for thing in ((), None, False, True, 0, "", [()], [[]], [ROOM], [None]):
                self.assert_order(False, thing, deed=deed)

    def test_some_left(self):
        for many in range(5):
            self.assert_order(False, self.ORDER[:many])
        self.assert_order(False, [TURN, KEY, BED], TURNING, ROUND, SHIFT)
        self.assert_order(False, [TURN, KEY, AGE], TURNING, ROUND, SHIFT)

    def test_one_too_early_or_too_late(self):
        for steps in (
                [FOUR, ROOM, BACK, FIVE, LOST], [ROOM, BACK, FIVE, FOUR, LOST],
                [ROOM, LOST, BACK, FOUR, FIVE], [BACK, ROOM, FOUR, FIVE, LOST],
                [ROOM, FOUR, FIVE, BACK, LOST], [ROOM, FOUR, FIVE, LOST, BACK]):
            self.assert_order(False, steps)
        self.assert_order(True, [ROOM, FOUR, BACK, FIVE, LOST])
        self.assert_order(True, [ROOM, FOUR, FIVE, LOST])

    def test_one_twice_or_left_out(self):
        for at in range(5):
            twice = self.ORDER[:at + 1] + self.ORDER[at:]
            self.assert_order(False, twice)
            self.assert_order(False, self.ORDER + self.ORDER[at:at + 1])
            fewer = self.ORDER[:at] + self.ORDER[at + 1:]
            # The cell of the row that goes later may be left out.
            self.assert_order(at == 1, fewer)

    def test_others_among_them(self):
        for step in (("gone", "rooms", 2), ("gone", "rooms", 9), ("gone", "doors", 1),
                     ("cell", "age", 2, "bed", None), ("cell", "age", 1, "bed", 0),
                     ("cell", "beds", 4, "room", None), ("put", "rooms", (9, 9))):
            for at in range(6):
                self.assert_order(False, self.ORDER[:at] + [step] + self.ORDER[at:])

    def test_spoiled_at_any_place(self):
        for place in places(self.ORDER):
            part = part_at(self.ORDER, place)
            for thing in NO_TUPLES + (True, False, 2, 10 ** 12, "gone", "cell", "beds"):
                right = repr(thing) == repr(part)
                self.assert_order(right, spoiled(self.ORDER, place, thing))
            self.assert_order(False, spoiled(self.ORDER, place, (part,)))
            self.assert_order(False, spoiled(self.ORDER, place, [part]))
        for place in tuple_places(self.ORDER):
            self.assert_order(False, with_list_at(self.ORDER, place))
            self.assert_order(False, with_part_fewer(self.ORDER, place))
            for thing in NO_TUPLES:
                self.assert_order(False, with_part_more(self.ORDER, place, thing))
        self.assert_order(False, tupled(self.ORDER))
        self.assert_order(False, listed(self.ORDER))

    def test_true_is_no_key(self):
        self.assert_order(False, spoiled(self.ORDER, (0, 2), True))
        self.assert_order(False, spoiled(self.ORDER, (4, 2), True))

    def test_things_deep_and_long(self):
        self.assert_order(False, [[[[[[[[]]]]]]]])
        self.assert_order(False, [ROOM] * 700)
        self.assert_order(False, "gone")


class AnyOrderTest(Asking):
    """Whatever is taken next, it comes to what brought tells."""

    def test_cast_plans(self):
        many = 0
        for seed in range(1500):
            plan, content, deed = cast(seed)
            try:
                told = brought(plan, content, deed)
            except TableError:
                continue
            with self.subTest(seed=seed):
                for turn in range(2):
                    steps = self.order_of(Dice(seed * 2 + turn), plan, content, deed)
                    self.compared(plan, content, deed, steps, told)
                many += len(steps) > 2
        self.assertGreater(many, 150)

    def order_of(self, dice, plan, content, deed):
        steps = []
        while True:
            told = steps_next(plan, content, deed, steps)
            self.assertEqual(told, naive.steps_next(plan, content, deed, steps))
            self.assertIs(shows_order(plan, content, deed, steps), not told)
            if not told:
                return steps
            steps.append(dice.one_of(told))

    def compared(self, plan, content, deed, steps, told):
        gone, cells = told
        rows = naive.all_rows(plan, content)
        self.assertEqual(naive.risen(plan, [s[1:] for s in steps if s[0] == "gone"]), gone)
        mine = [step[1:] for step in steps if step[0] == "cell" and step[1:3] not in gone]
        mine = [cell for cell in mine if rows[cell[:2]][cell[2]] != cell[3]]
        self.assertEqual(naive.risen(plan, mine), cells)
        behind = naive.behind(plan, content, deed)
        if behind is None:
            self.assertRaises(Taken, ended, plan, content, deed, steps)
        else:
            self.assertEqual(ended(plan, content, deed, steps), behind)
