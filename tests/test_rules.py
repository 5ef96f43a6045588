from tests.parts import (
    A_BILLION, NO_NAMES, NO_TUPLES, NO_WORTHS, Asking, listed, part_at, places, spoiled,
    tuple_places, with_list_at, with_part_fewer, with_part_more)
from tiedtables.rules import is_rules

TABLES = (
    ("rooms", (("id", None), ("size", 4))),
    ("beds", (("no", None), ("room", -1), ("age", None))),
    ("tags", (("id", None),)),
)
COLUMNS = {table: [column for column, _ in columns] for table, columns in TABLES}
KINDS = ("put", "drop", "set")
SIGNS = ("less", "like", "unlike")
# Parts of a rule by their places.
RULE, SIDE, TABLE, KIND, COLUMN, TEST, ACTS = range(7)

AHEAD = ("full", "ahead", "rooms", "put", None, (("new", "size"), "less", 1), ())
ROW = (
    "grows", "row", "beds", "set", "age", (("old", "age"), "unlike", ("new", "room")), (
        ("put", "rooms", (("new", "no"), None)),
        ("set", "beds", ("old", "no"), "age", 0),
        ("add", "rooms", ("old", "room"), "size", ("new", "age")),
    ),
)
DEED = (
    "after", "deed", "beds", "drop", None, (("many",), "like", 2),
    (("drop", "tags", ("many",)), ("put", "beds", (("many",), 3, None))),
)
PLAIN = ("plain", "row", "tags", "drop", None, None, (("drop", "rooms", ("old", "id")),))
RULES = (AHEAD, ROW, DEED, PLAIN)
WORTHS = (None, 0, 1, -1, A_BILLION, -A_BILLION)
NO_PLACES = (
    "many", "old", "new", "age", ("old",), ("new",), ("age",), ("many", "age"), ("many", 1),
    ("old", "age", "age"), ("age", "old"), ("old", None), ("new", 1), ("olds", "age"),
    ("Old", "age"), ("old", "size"), ("new", "doors"), ("old", ("age",)), ["old", "age"],
    ["new", "age"], ["many"], ("old", ["age"]), (("old", "age"),), ((),), (("many",),),
) + NO_WORTHS


def rule(side="row", table="beds", kind="set", column=None, test=None, acts=None):
    if acts is None:
        acts = () if side == "ahead" else (("drop", "tags", 1),)
    if test is None and side == "ahead":
        test = (1, "like", 1)
    return ("a", side, table, kind, column, test, acts)


class Rules(Asking):
    def assert_rules(self, answer, thing, tables=TABLES):
        self.assert_answers(answer, is_rules, tables, thing)

    def assert_rule(self, answer, thing):
        self.assert_rules(answer, (thing,))

    def assert_part(self, made, at, right, wrong):
        for part in right:
            self.assert_rule(True, spoiled(made, (at,), part))
        for part in wrong:
            self.assert_rule(False, spoiled(made, (at,), part))

    def assert_place(self, answer, place, side="row", table="beds", kind="set"):
        """The place in a test, on both of its sides, and in each act."""
        for test in ((place, "less", 1), (1, "unlike", place)):
            self.assert_rule(answer, rule(side, table, kind, None, test))
        if side == "ahead":
            return
        acts = (
            ("drop", "rooms", place), ("set", "rooms", place, "size", 1), ("put", "tags", (place,)),
            ("set", "rooms", 1, "size", place), ("add", "rooms", place, "size", 1),
            ("add", "rooms", 1, "size", place), ("put", "beds", (1, place, 1)),
        )
        for act in acts:
            self.assert_rule(answer, rule(side, table, kind, None, None, (act,)))


class RightRulesTest(Rules):
    def test_ordinary_rules(self):
        self.assert_rules(True, RULES)
        self.assertIs(is_rules(tables=TABLES, thing=RULES), True)
        for made in RULES:
            self.assert_rule(True, made)

    def test_from_none_to_eight(self):
        for many in range(12):
            made = tuple(("abcdefghijkl"[at],) + PLAIN[1:] for at in range(many))
            self.assert_rules(many <= 8, made)
        self.assert_rules(False, (PLAIN,) * 400)

    def test_names(self):
        for name in ("a", "z", "abcdefgh", "rooms", "beds", "id", "row", "many", "set"):
            self.assert_rule(True, spoiled(PLAIN, (RULE,), name))
        for name in NO_NAMES:
            self.assert_rule(False, spoiled(PLAIN, (RULE,), name))

    def test_names_unlike(self):
        self.assert_rules(False, (PLAIN, PLAIN))
        self.assert_rules(False, (AHEAD, ROW, ("full",) + DEED[1:]))
        self.assert_rules(True, (AHEAD, ("fulla",) + AHEAD[1:]))


class WatchedTest(Rules):
    def test_sides(self):
        for side in ("row", "deed"):
            self.assert_rule(True, rule(side))
        self.assert_rule(True, rule("ahead"))
        self.assert_part(rule(), SIDE, (), NO_NAMES + ("ro", "rows", "behind", "put", "many"))

    def test_tables(self):
        for table in COLUMNS:
            for kind in KINDS:
                for side in ("ahead", "row", "deed"):
                    self.assert_rule(True, rule(side, table, kind))
        self.assert_part(rule(), TABLE, (), NO_NAMES + ("bed", "doors", "age", "set"))

    def test_kinds(self):
        self.assert_part(rule(), KIND, KINDS, NO_NAMES + ("add", "sweep", "shift", "sets", "row"))

    def test_columns_of_a_set(self):
        for table, columns in COLUMNS.items():
            made = rule("row", table, "set")
            others = [name for name in ("no", "age", "size", "rooms") if name not in columns]
            wrong = [part for part in NO_NAMES if part is not None] + others
            self.assert_part(made, COLUMN, [None] + columns, wrong)

    def test_columns_of_others(self):
        for kind in ("put", "drop"):
            for side in ("ahead", "row", "deed"):
                wrong = ("no", "age", "room", "id", "", 0, False, ())
                self.assert_part(rule(side, "beds", kind), COLUMN, (None,), wrong)


class PlacesTest(Rules):
    def test_worths(self):
        for side in ("ahead", "row", "deed"):
            for kind in KINDS:
                for worth in WORTHS:
                    self.assert_place(True, worth, side, "beds", kind)
                for worth in NO_WORTHS:
                    self.assert_place(False, worth, side, "beds", kind)

    def test_old_and_new(self):
        for side in ("ahead", "row"):
            for kind in KINDS:
                for table, columns in COLUMNS.items():
                    for column in ("no", "id", "room", "age", "size"):
                        there = column in columns
                        old, new = there and kind != "put", there and kind != "drop"
                        self.assert_place(old, ("old", column), side, table, kind)
                        self.assert_place(new, ("new", column), side, table, kind)

    def test_many_is_of_side_deed_alone(self):
        for kind in KINDS:
            self.assert_place(True, ("many",), "deed", "beds", kind)
            for side in ("ahead", "row"):
                self.assert_place(False, ("many",), side, "beds", kind)

    def test_side_deed_reads_no_columns(self):
        for kind in KINDS:
            for name in ("old", "new"):
                for column in COLUMNS["beds"]:
                    self.assert_place(False, (name, column), "deed", "beds", kind)

    def test_columns_are_of_the_table_watched_not_of_the_one_acted_on(self):
        act = ("drop", "rooms", ("old", "size"))
        self.assert_rule(False, rule(acts=(act,)))
        self.assert_rule(True, rule(table="rooms", acts=(act,)))

    def test_no_places(self):
        for place in NO_PLACES:
            for side in ("ahead", "row", "deed"):
                self.assert_place(False, place, side)


class TestsTest(Rules):
    def test_none(self):
        for side in ("row", "deed"):
            self.assert_rule(True, rule(side)[:TEST] + (None,) + rule(side)[ACTS:])
        self.assert_rule(False, AHEAD[:TEST] + (None, ()))

    def test_signs(self):
        for side in ("ahead", "row", "deed"):
            for sign in SIGNS:
                self.assert_rule(True, rule(side, test=(1, sign, None)))
            for sign in NO_NAMES + ("les", "more", "likes", "not", "old", "many"):
                self.assert_rule(False, rule(side, test=(1, sign, 1)))

    def test_parts(self):
        for made in (AHEAD, ROW, DEED):
            test = made[TEST]
            self.assert_rule(False, spoiled(made, (TEST,), test[:2]))
            self.assert_rule(False, spoiled(made, (TEST,), test[1:]))
            self.assert_rule(False, spoiled(made, (TEST,), test + (1,)))
            self.assert_rule(False, spoiled(made, (TEST,), (test[1], test[0], test[2])))
            self.assert_rule(False, spoiled(made, (TEST,), (test[0], test[2], test[1])))
            self.assert_rule(False, spoiled(made, (TEST,), (test,)))
            self.assert_rule(True, spoiled(made, (TEST,), (test[2], test[1], test[0])))
            for part in NO_TUPLES:
                right = part is None and made[SIDE] != "ahead"
                self.assert_rule(right, spoiled(made, (TEST,), part))


class ActsTest(Rules):
    ACT = ("drop", "tags", 1)

    def assert_act(self, answer, act):
        for side in ("row", "deed"):
            self.assert_rule(answer, rule(side, acts=(act,)))
            self.assert_rule(answer, rule(side, acts=(self.ACT, act)))
        self.assert_rule(False, rule("ahead", acts=(act,)))

    def test_ahead_has_none(self):
        self.assert_rule(True, rule("ahead"))
        wrong = [part for part in NO_TUPLES if part != ()]
        self.assert_part(rule("ahead"), ACTS, ((),), wrong + [(self.ACT,), (None,), [()]])

    def test_from_one_to_three(self):
        for side in ("row", "deed"):
            for many in range(6):
                self.assert_rule(1 <= many <= 3, rule(side, acts=(self.ACT,) * many))

    def test_tables_and_columns(self):
        for table, columns in COLUMNS.items():
            self.assert_act(True, ("drop", table, 1))
            self.assert_act(True, ("put", table, (1,) * len(columns)))
            for column in ("id", "size", "no", "room", "age", "doors"):
                for kind in ("set", "add"):
                    self.assert_act(column in columns, (kind, table, 1, column, 2))

    def test_tables_and_columns_that_are_not_there(self):
        for part in NO_NAMES + ("doors", "bed", "drop"):
            for act in (("drop", part, 1), ("put", part, (1,)), ("set", part, 1, "id", 1),
                        ("add", part, 1, "id", 1), ("set", "tags", 1, part, 1),
                        ("add", "tags", 1, part, 1)):
                self.assert_act(False, act)

    def test_as_many_places_as_columns(self):
        for table, columns in COLUMNS.items():
            for many in range(7):
                right = many == len(columns)
                self.assert_act(right, ("put", table, (1,) * many))
            self.assert_act(False, ("put", table, [1] * len(columns)))
        for part in NO_TUPLES:
            right = part in ((None,), (0,)) and isinstance(part[0], (int, type(None)))
            self.assert_act(right, ("put", "tags", part))

    def test_nothing_may_be_a_key_and_a_key_be_set_and_added_to(self):
        for act in (("put", "beds", (None, None, None)), ("drop", "beds", None),
                    ("set", "beds", None, "no", None), ("add", "beds", None, "no", None)):
            self.assert_act(True, act)

    def test_kinds(self):
        right = {"put": ("tags", (1,)), "drop": ("tags", 1), "set": ("tags", 1, "id", 1),
                 "add": ("tags", 1, "id", 1)}
        for parts in right.values():
            for kind in ("put", "drop", "set", "add", "sweep", "shift"):
                self.assert_act(right.get(kind) == parts, (kind, *parts))
            for kind in NO_NAMES:
                self.assert_act(False, (kind, *parts))

    def test_a_part_more_or_fewer(self):
        for act in ROW[ACTS] + (("drop", "tags", 1),):
            self.assert_rule(True, ROW[:ACTS] + ((act,),))
            for part in (1, None, "id", ("old", "no"), ()):
                self.assert_rule(False, ROW[:ACTS] + ((act + (part,),),))
            for many in range(len(act)):
                self.assert_rule(False, ROW[:ACTS] + ((act[:many],),))
            self.assert_rule(False, ROW[:ACTS] + ((act[1:],),))


class SpoiledTest(Rules):
    def test_a_list_for_a_tuple(self):
        self.assert_rules(False, listed(RULES))
        self.assert_rules(False, [])
        for place in tuple_places(RULES):
            self.assert_rules(False, with_list_at(RULES, place))

    def test_a_tuple_or_a_list_about_any_part(self):
        for place in places(RULES):
            self.assert_rules(False, spoiled(RULES, place, (part_at(RULES, place),)))
            self.assert_rules(False, spoiled(RULES, place, [part_at(RULES, place)]))

    def test_other_things_for_a_tuple(self):
        for place in tuple_places(RULES):
            for thing in NO_TUPLES:
                if not self.is_place_or_test(place):
                    self.assert_rules(False, spoiled(RULES, place, thing))
        for nth in range(len(RULES)):
            self.assert_rules(False, spoiled(RULES, (nth,), ()))

    def is_place_or_test(self, place):
        """Where nothing, or a worth, may stand as well."""
        part = part_at(RULES, place)
        return place[1:] == (TEST,) or bool(part) and part[0] in ("old", "new", "many")

    def test_a_part_more_or_fewer(self):
        for place in tuple_places(RULES):
            for part in NO_TUPLES:
                self.assert_rules(False, with_part_more(RULES, place, part))
            # Rules and acts may be fewer.
            if place and place[1:] != (ACTS,):
                self.assert_rules(False, with_part_fewer(RULES, place))

    def test_parts_of_a_rule_exchanged(self):
        for made in RULES:
            for one in range(7):
                for other in range(one):
                    parts = list(made)
                    parts[one], parts[other] = parts[other], parts[one]
                    same = parts == list(made)
                    # A name may be called as a side, but no side as a name.
                    self.assert_rule(same, tuple(parts))

    def test_true_is_no_worth(self):
        for place in places(RULES):
            if part_at(RULES, place) in (0, 1, 2, 3):
                self.assert_rules(False, spoiled(RULES, place, True))
                self.assert_rules(False, spoiled(RULES, place, False))

    def test_things_deep_and_long(self):
        self.assert_rules(False, ((((((((),),),),),),),))
        self.assert_rules(False, ((),) * 2900)
        self.assert_rule(False, rule(acts=(("put", "tags", (1,) * 2900),)))

    def test_one_wrong_rule_behind_right_ones(self):
        self.assert_rules(False, RULES + (("wrong", "row", "tags", "set", "no", None, PLAIN[ACTS]),))
        self.assert_rules(False, RULES + (("wrong",) + AHEAD[1:ACTS] + (PLAIN[ACTS],),))
