from tests import naive_run
from tests.dice import Dice, cast_run
from tests.house import plan_of, plan_with, rule, tie
from tests.parts import Asking
from tiedtables.errors import TableError, TooMany
from tiedtables.orders import meets, two_orders
from tiedtables.ranks import ranks
from tiedtables.running import ran

BARE = [[], [], [], []]
ROOM = ("put", "rooms", (1, 5))
START = [[], [], [(1, 10)], []]


def behind_room(name, *acts, side="row", test=None):
    return rule(name, side, "rooms", "put", None, test, acts)


def size(worth):
    """An act that sets what key 1 holds."""
    return ("set", "keys", 1, "held", worth)


class TwoOrdersTest(Asking):
    def assert_alike(self, rules, content=START, deed=ROOM, ties=(), **named):
        self.assert_tells(None, two_orders, plan_with(ties, rules), content, deed, **named)

    def assert_part(self, rules, content=START, deed=ROOM, ties=(), **named):
        plan = plan_with(ties, rules)
        told = two_orders(plan, content, deed, **named)
        self.assertIsInstance(told, tuple)
        one, other = told
        self.assertIsInstance(one, list)
        self.assertIsInstance(other, list)
        self.assertNotEqual(self.end(plan, content, deed, one), self.end(plan, content, deed, other))
        self.assert_tells(told, two_orders, plan, content, deed, **named)

    def end(self, plan, content, deed, order):
        """The content at the order's end, "refused", when it has a number for each taking."""
        run = naive_run.Run(plan, content)
        run.do(deed, ("deed",))
        for place, at in enumerate(order, 1):
            self.assertIn(at, range(len(run.waiting)))
            try:
                run.take(at, 40)
            except naive_run.Refused:
                self.assertEqual(place, len(order))
                return "refused"
        self.assertEqual(run.waiting, [])
        return run.content

    def test_none_waits(self):
        self.assert_alike([])
        self.assert_alike([], most=0)
        self.assert_alike([behind_room("a", size(1), test=(1, "less", 0))], most=0)

    def test_one_alone(self):
        self.assert_alike([behind_room("a", size(1))])
        self.assert_alike([behind_room("a", size(1))], most=1)

    def test_to_one_end(self):
        add = ("add", "keys", 1, "held", 3)
        self.assert_alike([behind_room("a", add), behind_room("b", add), behind_room("c", add)])
        self.assert_alike([behind_room("a", size(4)), behind_room("b", size(4))])
        self.assert_alike([behind_room("a", ("put", "keys", (2, 1))), behind_room("b", size(4))])

    def test_contents_that_part(self):
        rules = [behind_room("a", size(1)), behind_room("b", size(2))]
        self.assert_part(rules)
        self.assert_part(rules, most=2)
        self.assertEqual(two_orders(plan_with((), rules), START, ROOM), ([0, 0], [1, 0]))
        told = two_orders(plan=plan_with((), rules), content=START, deed=ROOM, most=5)
        self.assertEqual(told, ([0, 0], [1, 0]))

    def test_part_further_on(self):
        """Only the last two of four takings tell them apart."""
        add = ("add", "keys", 1, "held", 3)
        next_one = rule("z", "row", "age", "put", None, None, (size(1),))
        rules = [behind_room("a", add), behind_room("b", ("put", "age", (1, 1))), next_one]
        self.assert_part(rules)
        self.assert_part(rules, most=3)

    def test_refused_and_not(self):
        put = ("put", "keys", (2, 7))
        drop = ("drop", "keys", 2)
        self.assert_part([behind_room("a", put), behind_room("b", drop, put)])
        # One order ends in a refusal, the other one doesn't: Stopped, as seen from the put.
        bars = rule("c", "ahead", "keys", "set", "held", (("old", "held"), "less", 5))
        self.assert_part([behind_room("a", size(1)), behind_room("b", size(7)), bars])

    def test_refused_all(self):
        put = ("put", "keys", (2, 7))
        self.assert_alike([behind_room("a", put), behind_room("b", put)])
        # Refused by two unlike classes, all the same.
        other = ("set", "keys", 1, "room", None)
        self.assert_alike([behind_room("a", ("put", "keys", (1, 7))), behind_room("b", other)])

    def test_takings_up_to_the_refusal_count(self):
        put = ("put", "keys", (1, 7))
        rules = [behind_room(name, put) for name in "abcdef"]
        self.assert_alike(rules, most=1)
        self.assert_alike(rules)

    def test_the_deed_itself_is_refused(self):
        rules = [behind_room("a", size(1)), behind_room("b", size(2))]
        self.assert_alike(rules, [[(1, 1)], *START[1:]])
        self.assert_alike(rules, [[(1, 1)], *START[1:]], most=0)
        self.assert_alike(rules, deed=("drop", "rooms", 9))

    def assert_too_many(self, most, rules, content=START, deed=ROOM, ties=()):
        self.assert_refused(
            TooMany, {"most": most}, two_orders, plan_with(ties, rules), content, deed, most=most)

    def test_too_many(self):
        add = ("add", "keys", 1, "held", 3)
        rules = [behind_room(name, add) for name in "abcdef"]
        for many in range(1, 6):
            self.assert_alike(rules[:many], most=many)
            self.assert_too_many(many - 1, rules[:many])
        self.assert_refused(TooMany, {"most": 5}, two_orders, plan_with((), rules), START, ROOM)

    def test_too_many_though_two_part(self):
        rules = [behind_room("a", size(1)), behind_room("b", size(2)), behind_room("c", size(3))]
        self.assert_too_many(2, rules)
        self.assert_part(rules, most=3)

    def test_too_many_of_any_order(self):
        """Where one order ends in a refusal soon, another one may have more takings."""
        put, drop = ("put", "keys", (2, 7)), ("drop", "keys", 2)
        rules = [behind_room("a", put), behind_room("b", put), behind_room("c", drop)]
        self.assert_too_many(2, rules)
        self.assert_part(rules, most=3)

    def test_many_rows_that_wait(self):
        one = rule("r", "row", "age", "set", "bed", None, (("set", "keys", 1, "held", ("old", "bed")),))
        ages = [(key, key) for key in range(5)]
        ahead = [[], [], [(1, 10)], ages]
        self.assert_part([one], ahead, ("shift", "age", "bed", 1))
        alike = [[], [], [(1, 10)], [(key, 3) for key in range(5)]]
        self.assert_alike([one], alike, ("shift", "age", "bed", 1))

    def test_by_ties(self):
        """A rule that drops what another one's row leans on, and a check at once."""
        ties = [tie("t", "age", "bed", "keys", when="once")]
        drop = behind_room("a", ("drop", "keys", 1))
        put = behind_room("b", ("put", "age", (1, 1)), ("drop", "age", 1))
        self.assert_part([drop, put], ties=ties)
        ties = [tie("t", "age", "bed", "keys", when="end")]
        self.assert_alike([drop, put], ties=ties)

    def test_cast_plans(self):
        seen = {"part": 0, "alike": 0, "long": 0}
        for seed in range(900):
            plan, content, deed = cast_run(seed)
            if ranks(plan)[1] is not None or len(plan[2]) < 2:
                continue
            most = 2 + seed % 2
            ends = naive_run.ends(plan, content, deed, most)
            with self.subTest(seed=seed, most=most):
                if "long" in [end for _, end in ends]:
                    with self.assertRaises(TooMany):
                        two_orders(plan, content, deed, most=most)
                    seen["long"] += 1
                    continue
                told = two_orders(plan, content, deed, most=most)
                if all(end == ends[0][1] for _, end in ends):
                    self.assertIsNone(told)
                    seen["alike"] += len(ends) > 1
                else:
                    one, other = [[end for order, end in ends if order == way] for way in told]
                    self.assertEqual((len(one), len(other)), (1, 1))
                    self.assertNotEqual(one, other)
                    seen["part"] += 1
        self.assertGreater(min(seen.values()), 0)


class MeetsTest(Asking):
    def assert_meets(self, answer, *rules, ties=()):
        self.assert_tells(answer, meets, plan_with(ties, rules))

    def test_none(self):
        self.assert_tells([], meets, plan_of())

    def test_a_rule_with_itself(self):
        self.assert_meets([("a", "a")], behind_room("a", size(1)))

    def test_rules_that_do_not_act_reach_nothing(self):
        bars = rule("b", "ahead", "keys", "set", None, (1, "like", 1))
        self.assert_meets([("a", "a")], bars, behind_room("a", size(1)))
        self.assert_meets([("a", "a")], behind_room("a", size(1)), bars)
        self.assert_meets([], bars)

    def test_tables_of_acts(self):
        keys, age = behind_room("k", size(1)), behind_room("g", ("drop", "age", 1))
        both = behind_room("b", ("drop", "age", 1), ("put", "keys", (1, 1)))
        self.assert_meets([("k", "k"), ("g", "g")], keys, age)
        self.assert_meets([("k", "k"), ("k", "b"), ("g", "g"), ("g", "b"), ("b", "b")], keys, age, both)
        self.assert_meets([("b", "b"), ("b", "g"), ("b", "k"), ("g", "g"), ("k", "k")], both, age, keys)

    def test_what_is_watched_is_not_reached(self):
        one = rule("a", "row", "keys", "put", None, None, (("drop", "age", 1),))
        other = rule("b", "row", "beds", "put", None, None, (("put", "keys", (1, 1)),))
        lone = rule("c", "row", "keys", "drop", None, None, (("put", "beds", (1, 1, 1, 1)),))
        self.assert_meets([("a", "a"), ("c", "c")], one, lone)
        # The one that sets the other off reaches what that one reaches.
        self.assert_meets([("a", "a"), ("a", "b"), ("b", "b")], one, other)

    def test_kinds_that_acts_bring(self):
        rules = behind_room("a", ("drop", "rooms", 1)), behind_room("b", ("drop", "age", 1))
        apart, meeting = [("a", "a"), ("b", "b")], [("a", "a"), ("a", "b"), ("b", "b")]
        far = (tie("s", "beds", "next", "rooms", "carry"), tie("t", "keys", "held", "beds", "carry"),
               tie("u", "keys", "held", "age"))
        self.assert_meets(meeting, *rules, ties=far)
        # Without the second tie keys is not reached by way of beds.
        self.assert_meets(apart, *rules, ties=(far[0], far[2]))
        # By the second tie alone that is tied to beds, keys is near the other one only.
        self.assert_meets(apart, *rules, ties=far[1:])
        look = (tie("s", "beds", "next", "rooms", "look"), *far[1:])
        self.assert_meets(apart, *rules, ties=look)

    def test_one_tie_either_way(self):
        rules = behind_room("a", ("drop", "rooms", 1)), behind_room("b", ("drop", "age", 1))
        apart, meeting = [("a", "a"), ("b", "b")], [("a", "a"), ("a", "b"), ("b", "b")]
        self.assert_meets(apart, *rules)
        self.assert_meets(meeting, *rules, ties=(tie("t", "rooms", "size", "age"),))
        self.assert_meets(meeting, *rules, ties=(tie("t", "age", "bed", "rooms"),))
        # Both are one step from beds.
        for one in (tie("t", "beds", "next", "rooms"), tie("t", "rooms", "size", "beds")):
            for other in (tie("s", "beds", "next", "age"), tie("s", "age", "bed", "beds")):
                self.assert_meets(meeting, *rules, ties=(one, other))
        # By two steps from each they would meet between beds and keys, which they don't.
        ties = (tie("t", "beds", "next", "rooms"), tie("s", "keys", "held", "age"),
                tie("u", "beds", "back", "keys"))
        self.assert_meets(apart, *rules, ties=ties)

    def test_on_and_on_by_rules(self):
        one = rule("c", "row", "beds", "put", None, None, (("put", "keys", (1, 1)),))
        two = rule("b", "row", "keys", "put", None, None, (("put", "age", (1, 1)),))
        top = rule("a", "row", "rooms", "drop", None, None, (("put", "beds", (1, 1, 1, 1)),))
        lone = rule("d", "row", "rooms", "drop", None, None, (("put", "age", (2, 2)),))
        names = "dcba"
        answer = [(rule_, other) for at, rule_ in enumerate(names) for other in names[at:]]
        self.assert_meets(answer, lone, one, two, top)
        self.assert_meets([("d", "d"), ("c", "c"), ("c", "a"), ("a", "a")], lone, one, top)

    def test_rules_in_a_ring(self):
        one = rule("a", "row", "beds", "put", None, None, (("put", "keys", (1, 1)),))
        two = rule("b", "row", "keys", "put", None, None, (("put", "beds", (1, 1, 1, 1)),))
        self.assert_meets([("a", "a"), ("a", "b"), ("b", "b")], one, two)

    def test_cast_plans(self):
        for seed in range(300):
            plan = cast_run(seed)[0]
            with self.subTest(seed=seed):
                self.assertEqual(meets(plan), naive_run.meets(plan))

    def test_where_none_meet_orders_never_part(self):
        asked = 0
        for seed in range(1500):
            plan, content, deed = cast_run(seed)
            if ranks(plan)[1] is not None:
                continue
            try:
                told = two_orders(plan, content, deed, most=4)
            except TooMany:
                continue
            try:
                run = naive_run.Run(plan, content)
                run.do(deed, ("deed",))
            except naive_run.Refused:
                continue
            waiting = [one[0][0] for one in run.waiting]
            pairs = [(waiting[low], waiting[high])
                     for high in range(len(waiting)) for low in range(high)]
            if pairs and not set(pairs) & set(meets(plan)):
                asked += 1
                with self.subTest(seed=seed):
                    self.assertIsNone(told)
        self.assertGreater(asked, 0)


class AnyOrderTest(Asking):
    def end(self, plan, content, deed, order):
        try:
            return ran(plan, content, deed, order=order)[0]
        except TableError:
            return None

    def test_where_none_part_any_order_comes_to_one_end(self):
        asked = 0
        for seed in range(600):
            plan, content, deed = cast_run(seed)
            if ranks(plan)[1] is not None:
                continue
            try:
                if two_orders(plan, content, deed) is not None:
                    continue
            except TooMany:
                continue
            dice, first = Dice(seed), self.end(plan, content, deed, ())
            for _ in range(4):
                order = [dice.below(9) for _ in range(5)]
                with self.subTest(seed=seed, order=order):
                    self.assertEqual(self.end(plan, content, deed, order), first)
            asked += 1
        self.assertGreater(asked, 100)


class RefusedOrdersTest(Asking):
    def test_an_order_that_ends_in_a_refusal_is_refused_by_ran(self):
        put, drop = ("put", "keys", (2, 7)), ("drop", "keys", 2)
        plan = plan_with((), [behind_room("a", put), behind_room("b", drop, put)])
        ends = []
        for order in two_orders(plan, START, ROOM):
            try:
                ends.append(ran(plan, START, ROOM, order=order)[0])
            except TableError:
                ends.append(None)
        self.assertNotEqual(*ends)
        self.assertIn(None, ends)
