from tests import naive_run
from tests.dice import cast_run
from tests.house import TABLES, plan_with, rule, tie
from tests.parts import NO_TUPLES, Asking, listed, tupled
from tiedtables.errors import TableError
from tiedtables.journals import gone_through, shows_journal, source_of
from tiedtables.running import ran

DEED = ("deed",)
AHEAD = [[(1, 4), (2, 6)], [(5, 1, 0, 2), (6, 2, 5, 1)], [], [(1, 5)]]
# Three deeds: keys that change places, then one that drops and empties, then a put.
JOURNAL = [
    (0, "rooms", 1, "id", 1, 2, DEED),
    (0, "rooms", 2, "id", 2, 1, DEED),
    (0, "beds", 5, "room", 1, 2, ("tie", "in", 0)),
    (0, "beds", 6, "room", 2, 1, ("tie", "in", 1)),
    (2, "beds", 5, None, (5, 2, 0, 2), None, ("rule", "r", 1)),
    (2, "beds", 6, "next", 5, None, ("tie", "by", 4)),
    (2, "beds", 6, "back", 1, 7, ("tie", "at", 4)),
    (2, "age", 1, "bed", 5, None, ("tie", "of", 4)),
    (5, "beds", 5, None, None, (5, None, 8, 9), ("rule", "s", 7)),
]
BEHIND = [
    [(1, 6), (2, 4)], [(5, None, 8, 9), (6, 1, None, 7)], [], [(1, None)]]


class GoneThroughTest(Asking):
    def assert_gone(self, answer, journal, ahead=AHEAD):
        self.assert_tells(answer, gone_through, TABLES, ahead, journal)

    def test_nothing(self):
        self.assert_gone(AHEAD, [])
        self.assert_gone([[], [], [], []], [], [[], [], [], []])

    def test_each_deed_at_once(self):
        self.assert_gone([[(1, 6), (2, 4)], [(5, 2, 0, 2), (6, 1, 5, 1)], [], [(1, 5)]], JOURNAL[:4])
        self.assert_gone(
            [[(1, 6), (2, 4)], [(6, 1, None, 7)], [], [(1, None)]], JOURNAL[:8])
        self.assert_gone(BEHIND, JOURNAL)

    def test_a_part_of_whole_deeds(self):
        ahead = gone_through(TABLES, AHEAD, JOURNAL[:4])
        self.assert_gone(BEHIND, JOURNAL[4:], ahead)

    def test_keys_that_are_set_and_other_cells_of_that_row(self):
        journal = [(3, "rooms", 1, "id", 1, 9, DEED), (3, "rooms", 1, "size", 4, 5, ("tie", "t", 0))]
        self.assert_gone([[(2, 6), (9, 5)], *AHEAD[1:]], journal)

    def test_a_cell_set_to_nothing_is_no_row_that_goes(self):
        self.assert_gone([[(1, None), (2, 6)], *AHEAD[1:]], [(0, "rooms", 1, "size", 4, None, DEED)])
        ahead = [[(1, None), (2, 6)], *AHEAD[1:]]
        self.assert_gone(AHEAD, [(0, "rooms", 1, "size", None, 4, DEED)], ahead)

    def test_by_names(self):
        told = gone_through(tables=TABLES, content=AHEAD, journal=JOURNAL)
        self.assertEqual(told, BEHIND)


class SourceOfTest(Asking):
    def test_back_to_the_deed(self):
        for number, answer in enumerate((
                [0], [1], [2, 0], [3, 1], [4, 1], [5, 4, 1], [6, 4, 1], [7, 4, 1], [8, 7, 4, 1])):
            self.assert_tells(answer, source_of, JOURNAL, number)

    def test_the_nearest_deed_ends_it(self):
        journal = JOURNAL[:2] + [(1, "rooms", 1, "size", 6, 7, DEED)]
        self.assert_tells([2], source_of, journal, 2)

    def test_by_names(self):
        self.assertEqual(source_of(journal=JOURNAL, number=8), [8, 7, 4, 1])


class ShowsJournalTest(Asking):
    def assert_shown(self, answer, thing, journal=JOURNAL, ahead=AHEAD):
        self.assert_answers(answer, shows_journal, TABLES, ahead, journal, thing)

    def test_what_it_comes_to(self):
        self.assert_shown(True, BEHIND)
        self.assert_shown(True, AHEAD, [])
        self.assert_shown(False, AHEAD)
        self.assert_shown(False, BEHIND, JOURNAL[:8])
        told = shows_journal(tables=TABLES, content=AHEAD, journal=JOURNAL, thing=BEHIND)
        self.assertIs(told, True)

    def test_spoiled_at_any_place(self):
        self.assert_only(BEHIND, shows_journal, TABLES, AHEAD, JOURNAL)

    def test_things_of_other_kinds(self):
        for thing in (*NO_TUPLES, listed(BEHIND), tupled(BEHIND), tuple(BEHIND), BEHIND + [[]],
                      [BEHIND], (BEHIND, JOURNAL), BEHIND[:3], JOURNAL):
            self.assert_shown(False, thing)

    def test_true_and_false_are_no_numbers(self):
        ahead = [[(0, 1)], [], [], []]
        self.assert_shown(True, [[(0, 1)], [], [], []], [], ahead)
        for row in ((False, 1), (0, True), (False, True)):
            self.assert_shown(False, [[row], [], [], []], [], ahead)

    def test_a_bare_content(self):
        bare = [[], [], [], []]
        self.assert_shown(True, [[], [], [], []], [], bare)
        self.assert_only([[], [], [], []], shows_journal, TABLES, bare, [])


class CastRunsTest(Asking):
    def test_gone_through_again(self):
        went = 0
        for seed in range(500):
            plan, content, deed = cast_run(seed)
            try:
                behind, journal = ran(plan, content, deed)
            except TableError:
                continue
            with self.subTest(seed=seed):
                self.assertEqual(gone_through(plan[0], content, journal), behind)
                self.assertIs(shows_journal(plan[0], content, journal, behind), True)
                self.assertIs(
                    shows_journal(plan[0], content, journal, content), content == behind)
                went += len(journal)
                self.led_back(journal)
        self.assertGreater(went, 400)

    def led_back(self, journal):
        for number in range(len(journal)):
            told = source_of(journal, number)
            self.assertEqual(told[0], number)
            self.assertEqual(journal[told[-1]][6], DEED)
            for at, then in zip(told, told[1:]):
                self.assertEqual(journal[at][6][2], then)
                # What it came of stands ahead of it, or in the same deed.
                self.assertLessEqual(journal[then][0], journal[at][0])

    def test_entries_are_of_the_deeds_done(self):
        rules = [
            rule("r", "row", "beds", "set", "room", None, (
                ("drop", "beds", ("old", "id")), ("put", "keys", (("old", "id"), 3)))),
            rule("s", "deed", "beds", "drop", None, None, (("add", "rooms", 1, "size", ("many",)),)),
        ]
        plan = plan_with([tie("in", "beds", "room", "rooms", "empty")], rules)
        behind, journal = ran(plan, AHEAD, ("sweep", "rooms", "size", 6))
        self.assertEqual(journal, [
            (0, "rooms", 2, None, (2, 6), None, DEED),
            (0, "beds", 6, "room", 2, None, ("tie", "in", 0)),
            (1, "beds", 6, None, (6, None, 5, 1), None, ("rule", "r", 1)),
            (2, "keys", 6, None, None, (6, 3), ("rule", "r", 1)),
            (3, "rooms", 1, "size", 4, 5, ("rule", "s", 2)),
        ])
        self.assertEqual(source_of(journal, 4), [4, 2, 1, 0])
        self.assertEqual(naive_run.ran(plan, AHEAD, ("sweep", "rooms", "size", 6)), (behind, journal))
