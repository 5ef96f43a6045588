from tests import naive_texts
from tests.dice import Dice, cast_run
from tests.house import TABLES
from tests.parts import A_BILLION, Asking
from tiedtables.contents import is_content
from tiedtables.contenttexts import content_from, content_text
from tiedtables.errors import BadLine

CONTENT = [[(1, 4), (2, None)], [(-5, 1, 0, None), (0, None, None, A_BILLION)], [], [(12, -7)]]
TEXT = """row rooms 1 4
row rooms 2 -
row beds -5 1 0 -
row beds 0 - - 1000000000
row age 12 -7"""
LINES = TEXT.split("\n")
BARE = [[], [], [], []]


class ContentTextTest(Asking):
    def assert_bad(self, line, text, tables=TABLES):
        self.assert_refused(BadLine, {"line": line}, content_from, tables, text)

    def test_to_and_fro(self):
        self.assert_tells(TEXT, content_text, TABLES, CONTENT)
        self.assert_tells(CONTENT, content_from, TABLES, TEXT)
        self.assertEqual(content_text(tables=TABLES, content=CONTENT), TEXT)
        self.assertEqual(content_from(tables=TABLES, text=TEXT), CONTENT)

    def test_none(self):
        self.assert_tells("", content_text, TABLES, BARE)
        self.assert_tells(BARE, content_from, TABLES, "")
        self.assert_tells([[]], content_from, TABLES[:1], "")

    def test_one_column(self):
        tables = (("a", (("k", None),)), ("b", (("k", None),)))
        self.assert_tells("row a 3\nrow b 1\nrow b 2", content_text, tables, [[(3,)], [(1,), (2,)]])
        self.assert_tells([[(3,)], [(1,), (2,)]], content_from, tables, "row b 2\nrow a 3\nrow b 1")

    def test_lines_in_any_order(self):
        for lines in (LINES[::-1], LINES[2:] + LINES[:2], LINES[1::2] + LINES[::2]):
            self.assert_tells(CONTENT, content_from, TABLES, "\n".join(lines))

    def test_sums_may_be_greater(self):
        content = [[(A_BILLION + 1, -3 * A_BILLION)], [], [], []]
        text = "row rooms 1000000001 -3000000000"
        self.assert_tells(text, content_text, TABLES, content)
        self.assert_bad(0, text)

    def test_bad_lines(self):
        for line in (
                "", " ", "row", "row ", "row rooms", "row rooms ", "row rooms 1", "row rooms 1 2 3",
                "row rooms 3 2 ", " row rooms 3 2", "row  rooms 3 2", "row rooms 3  2", "row halls 3 2",
                "Row rooms 3 2", "rows rooms 3 2", "put rooms 3 2", "row rooms - 2", "row rooms 1 4",
                "row rooms 1 9", "row rooms 03 2", "row rooms 3 02", "row rooms 3 -0", "row rooms -0 3",
                "row rooms 3 +2", "row rooms 3 2.0", "row rooms 3 --", "row rooms 3 None", "row rooms 3 1e3",
                "row rooms 3 1000000001", "row rooms -1000000001 3", "row rooms 3 10000000000",
                "row rooms 3 2\t", "store", "table a k -", "row rooms 3 2\nx", "-", "row - 3 2"):
            with self.subTest(line=line):
                at = len(LINES) + line.count("\n")
                self.assert_bad(at, "\n".join([*LINES, line]))
                self.assert_bad(at, "\n".join([*LINES, line, "row"]))

    def test_line_feeds_ahead_and_behind(self):
        self.assert_bad(0, "\n")
        self.assert_bad(0, "\n" + TEXT)
        self.assert_bad(len(LINES), TEXT + "\n")
        self.assert_bad(1, "row rooms 1 4\n\nrow rooms 2 4")

    def test_a_key_that_is_there(self):
        self.assert_bad(2, "row rooms 1 4\nrow keys 1 4\nrow rooms 1 4")
        self.assert_bad(3, "row rooms 3 4\nrow rooms 1 4\nrow rooms 2 4\nrow rooms 1 5")

    def test_sixty_rows(self):
        lines = [f"row {table} {key} 1" for key in range(30) for table in ("keys", "rooms")]
        content = content_from(TABLES, "\n".join(lines))
        self.assertEqual([len(rows) for rows in content], [30, 0, 30, 0])
        for line in ("row age 1 1", "row rooms 99 1"):
            self.assert_bad(60, "\n".join([*lines, line]))
            self.assert_bad(60, "\n".join([*lines, line, line]))
            self.assert_bad(30, "\n".join(lines[:30] + ["x"] + lines))

    def test_cast_contents(self):
        for seed in range(300):
            plan, content, _ = cast_run(seed)
            dice, text = Dice(seed), content_text(plan[0], content)
            lines = text.split("\n")
            for at in range(len(lines)):
                place = dice.below(len(lines))
                lines[at], lines[place] = lines[place], lines[at]
            with self.subTest(seed=seed):
                self.assertEqual(content_from(plan[0], text), content)
                self.assertEqual(content_from(plan[0], "\n".join(lines)), content)
                self.assertIsNone(naive_texts.bad_in_content(plan[0], "\n".join(lines)))


class SpoiledTest(Asking):
    def assert_as_naive(self, text):
        line = naive_texts.bad_in_content(TABLES, text)
        with self.subTest(text=text):
            if line is None:
                content = content_from(TABLES, text)
                self.assertTrue(is_content(TABLES, content))
                lines = content_text(TABLES, content).split("\n")
                self.assertEqual(sorted(lines), sorted(text.split("\n")))
            else:
                with self.assertRaises(BadLine) as caught:
                    content_from(TABLES, text)
                self.assertEqual(caught.exception.line, line)

    def test_one_sign_otherwise_at_any_place(self):
        for at in range(len(TEXT) + 1):
            self.assert_as_naive(TEXT[:at] + TEXT[at + 1:])
            for sign in " -0a1.z~\nA":
                self.assert_as_naive(TEXT[:at] + sign + TEXT[at:])
                self.assert_as_naive(TEXT[:at] + sign + TEXT[at + 1:])

    def test_one_line_otherwise_at_any_place(self):
        for at in range(len(LINES) + 1):
            self.assert_as_naive("\n".join(LINES[:at] + LINES[at + 1:]))
            for line in [*LINES, "", "row", "row keys 1 1", "row keys 1", "row beds 0 0 0 0"]:
                self.assert_as_naive("\n".join(LINES[:at] + [line] + LINES[at:]))
                self.assert_as_naive("\n".join(LINES[:at] + [line] + LINES[at + 1:]))
