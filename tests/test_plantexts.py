from tests import naive_texts
from tests.dice import cast_run
from tests.house import TABLES
from tests.parts import A_BILLION, Asking
from tiedtables.errors import BadLine
from tiedtables.plantexts import plan_from, plan_text
from tiedtables.rules import is_rules
from tiedtables.ties import is_ties
from tiedtables.plans import is_tables

TEXT = """table rooms id - size 4
table beds id - room -1 next 7 back -
tie in beds room rooms empty carry once
tie by beds next beds bar look end
rule full ahead rooms put -
if new.size less 0
rule grow row beds set room
if old.room unlike -
do add rooms old.room size -1
do set beds new.id next -
rule many deed beds drop -
if many like 3
do put rooms many -
do drop beds 7
do put beds 1 many - -5
rule any row rooms set -
do drop rooms new.size"""
PLAN = (
    TABLES[:2], (
        ("in", "beds", "room", "rooms", "empty", "carry", "once"),
        ("by", "beds", "next", "beds", "bar", "look", "end")), (
        ("full", "ahead", "rooms", "put", None, (("new", "size"), "less", 0), ()),
        ("grow", "row", "beds", "set", "room", (("old", "room"), "unlike", None), (
            ("add", "rooms", ("old", "room"), "size", -1),
            ("set", "beds", ("new", "id"), "next", None))),
        ("many", "deed", "beds", "drop", None, (("many",), "like", 3), (
            ("put", "rooms", (("many",), None)), ("drop", "beds", 7),
            ("put", "beds", (1, ("many",), None, -5)))),
        ("any", "row", "rooms", "set", None, None, (("drop", "rooms", ("new", "size")),)),
    ))
LINES = TEXT.split("\n")
SIGNS = " -0a1.z~\nA"


def greatest():
    """The lines of a plan with as much as there may be of everything."""
    columns = " ".join(f"{name} {worth}" for name, worth in (
        ("zzzzzzzz", "-"), ("b", A_BILLION), ("c", -A_BILLION), ("d", 0), ("e", -1)))
    lines = [f"table t{name} {columns}" for name in "abcdef"]
    lines += [f"tie s{name} ta b tf carry fallback end" for name in "abcdefghij"]
    for name in "abcdefgh":
        lines += [f"rule r{name} row ta set -", "if old.b less new.c"]
        lines += ["do drop tb old.d", "do put tc 1 2 3 4 5", "do drop td 1"]
    return lines


class TextAsking(Asking):
    def assert_bad(self, line, text):
        self.assert_refused(BadLine, {"line": line}, plan_from, text)

    def assert_right(self, text):
        """It is read, as a plan, of which it is the text."""
        plan = plan_from(text)
        self.assertTrue(is_tables(plan[0]) and is_ties(plan[0], plan[1]))
        self.assertTrue(is_rules(plan[0], plan[2]))
        self.assertEqual(plan_text(plan), text)
        self.assertEqual(repr(plan_from(text)), repr(plan))

    def assert_as_naive(self, text):
        line = naive_texts.bad_in_plan(text)
        with self.subTest(text=text):
            if line is None:
                self.assert_right(text)
            else:
                with self.assertRaises(BadLine) as caught:
                    plan_from(text)
                self.assertEqual(caught.exception.line, line)


class PlanTextTest(TextAsking):
    def test_to_and_fro(self):
        self.assert_tells(TEXT, plan_text, PLAN)
        self.assert_tells(PLAN, plan_from, TEXT)
        self.assertEqual(plan_from(text=TEXT), PLAN)
        self.assertEqual(plan_text(plan=PLAN), TEXT)

    def test_a_table_alone(self):
        self.assert_tells(((("a", (("k", None),)),), (), ()), plan_from, "table a k -")
        self.assert_tells("table a k -", plan_text, ((("a", (("k", None),)),), (), ()))

    def test_the_greatest_plan(self):
        self.assertEqual(len(greatest()), 56)
        self.assert_right("\n".join(greatest()))
        plan = plan_from("\n".join(greatest()))
        self.assertEqual([len(part) for part in plan], [6, 10, 8])
        self.assertEqual(plan[0][0][1], (
            ("zzzzzzzz", None), ("b", A_BILLION), ("c", -A_BILLION), ("d", 0), ("e", -1)))

    def test_one_more(self):
        lines = greatest()
        for line, more in (
                (6, "table tg k -"), (16, "tie sk ta b tf carry fallback end"),
                (56, "rule ri row ta set -"), (21, "do drop td 2"), (56, "do drop td 2"),
                (18, "if 0 less 1")):
            text = "\n".join(lines[:line] + [more] + lines[line:])
            self.assert_bad(line, text)
        columns = lines[0] + " f 5"
        self.assert_bad(0, "\n".join([columns] + lines[1:]))

    def test_names_like_the_words_of_texts(self):
        names = ["table", "tie", "rule", "if", "do"]
        text = "\n".join([
            "table many old - new 1 many -", "table row store - to 2", "table put drop - set 3",
            "tie if row to row empty bar once", "tie do many many put look carry end",
            "rule table row many set many", "if old.many like new.old", "do put row old.new new.many",
            "do set many new.old new old.many", "do add many old.old many 1", "rule deed deed row put -",
            "if many less many", "do drop many many", "do put many many many many",
            "do add many many many many", "rule old ahead put drop -", "if old.set unlike old.drop"])
        self.assertIsNone(naive_texts.bad_in_plan(text))
        self.assert_right(text)
        acts = plan_from(text)[2][1][6]
        self.assertEqual(acts, (
            ("drop", "many", ("many",)), ("put", "many", (("many",),) * 3),
            ("add", "many", ("many",), "many", ("many",))))
        self.assert_right("\n".join(f"table {name} {name} -" for name in names))

    def test_cast_plans(self):
        for seed in range(300):
            plan = cast_run(seed)[0]
            with self.subTest(seed=seed):
                self.assertEqual(plan_from(plan_text(plan)), plan)
                self.assertIsNone(naive_texts.bad_in_plan(plan_text(plan)))


class BadLineTest(TextAsking):
    def assert_bad_lines(self, lines, ahead):
        for line in lines:
            with self.subTest(line=line):
                self.assert_bad(len(ahead), "\n".join([*ahead, line]))
                self.assert_bad(len(ahead), "\n".join([*ahead, line, *LINES]))

    def test_the_bare_text(self):
        self.assert_bad(0, "")
        self.assert_bad(0, "\n")
        self.assert_bad(0, " ")

    def test_bare_lines(self):
        for at in range(len(LINES) + 1):
            self.assert_bad(at, "\n".join(LINES[:at] + [""] + LINES[at:]))
        self.assert_bad(len(LINES), TEXT + "\n")
        self.assert_bad(0, "\n" + TEXT)

    def test_tables(self):
        self.assert_bad_lines((
            "table", "table ", "table a", "table a ", "table a k", "table a k 0", "table a k 1",
            "table a k - ", " table a k -", "table  a k -", "table a  k -", "table a k  -", "tables a k -",
            "Table a k -", "table A k -", "table aaaaaaaaa k -", "table a k - k -", "table a k - x",
            "table a k - x y", "table a k - x 1 x 2", "table a k - x 01", "table a k - x -0",
            "table a k - x +1", "table a k - x 1.0", "table a k - x --1", "table a k - x 00",
            "table a k - x 1000000001", "table a k - x -1000000001", "table a k - x 10000000000",
            "table a k - x 1_0", "table a k - x None", "table a k -\t", "table - k -", "table a - -",
            "table a k - b 1 c 1 d 1 e 1 f 1", "tie t a k a bar bar end", "rule r row a put -",
            "if 0 like 0", "do drop a 1", "row a 1", "store", "a", "-", "table a k - x " + "9" * 90), [])
        self.assert_bad_lines(("table rooms id -", "table beds"), LINES[:1])
        self.assert_bad(2, "table a k -\ntable b k -\ntable a k -")

    def test_ties(self):
        self.assert_bad_lines((
            "tie", "tie t", "tie in beds room rooms empty carry", "tie in beds room rooms empty carry ",
            "tie in beds room rooms empty carry once ", "tie in beds room rooms empty carry once end",
            "tie  in beds room rooms empty carry once", "tie IN beds room rooms empty carry once",
            "tie in bed room rooms empty carry once", "tie in beds rooms rooms empty carry once",
            "tie in beds room halls empty carry once", "tie in beds room rooms drop carry once",
            "tie in beds room rooms empty none once", "tie in beds room rooms empty carry twice",
            "tie in beds id rooms empty carry once", "tie in beds id rooms carry fallback once",
            "tie in rooms room beds look look end", "tie - beds room rooms empty carry once"),
            LINES[:2])
        self.assert_bad_lines((LINES[2], "table keys id -", "tie in beds next rooms look look end"), LINES[:3])

    def test_rules(self):
        self.assert_bad_lines((
            "rule", "rule r", "rule r row rooms put", "rule r row rooms put - -", "rule r row rooms put - ",
            "rule R row rooms put -", "rule r behind rooms put -", "rule r row halls put -",
            "rule r row rooms add -", "rule r row rooms put id", "rule r row rooms drop size",
            "rule r row rooms set room", "rule r row rooms set None", "rule r row rooms set --",
            "if 0 like 0", "do drop rooms 1", "rule r  rooms put -"), LINES[:4])
        self.assert_bad_lines(("rule full row rooms put -", "tie at beds back beds look look end",
                               "table keys id -", "if 0 like 0", "do drop rooms 1"), LINES[:6])

    def test_tests(self):
        self.assert_bad_lines((
            "if", "if 0 like", "if 0 like 0 ", "if 0 like 0 0", "if 0 is 0", "if 0 Like 0", "if  like 0",
            "if old.size like 0", "if new.room like 0", "if many like 0", "if new. like 0", "if new like 0",
            "if new.size.id like 0", "if new.size less 01", "if new-size less 0", "if size less 0",
            "if 0 like -0", "if 0 like 1000000001", "do drop rooms 1", "rule r row rooms put -"), LINES[:5])
        # A test stands ahead of all acts, and once.
        self.assert_bad_lines(("if 0 like 0", "rule r row rooms put -"), LINES[:8])
        self.assert_bad_lines(("if 0 like 0",), LINES[:9])
        self.assert_bad_lines(("if old.id like 0", "if new.id like 1"), LINES[:11])

    def test_places_by_the_kind(self):
        for kind, bad in (("put", "old.id"), ("drop", "new.id"), ("set", "many"), ("put", "many")):
            head = ["table a id -", f"rule r row a {kind} -"]
            self.assert_bad(2, "\n".join([*head, f"if {bad} like 0"]))
            self.assert_bad(2, "\n".join([*head, f"if 0 like {bad}"]))
            self.assert_bad(2, "\n".join([*head, f"do drop a {bad}"]))

    def test_acts(self):
        self.assert_bad_lines((
            "do", "do ", "do put", "do put rooms", "do put rooms 1", "do put rooms 1 2 3", "do put halls 1 2",
            "do put rooms 1 2 ", "do put rooms  1 2", "do drop rooms", "do drop rooms 1 2", "do drop halls 1",
            "do drop rooms id", "do set rooms 1 size", "do set rooms 1 size 1 1", "do set rooms size 1 1",
            "do set rooms 1 room 1", "do add rooms 1 - 1", "do sweep rooms size 1", "do shift rooms size 1",
            "do drop rooms many", "do drop rooms old.size", "do drop rooms 1000000001", "do - rooms 1",
            "rule r row rooms put -"), LINES[:8])

    def test_a_rules_if_or_do_is_wanted_at_the_end(self):
        for many in range(1, len(LINES) + 1):
            text = "\n".join(LINES[:many])
            with self.subTest(text=text):
                if LINES[many - 1].startswith("rule") or many in (8, 12):
                    self.assert_bad(many, text)
                else:
                    self.assert_right(text)

    def test_the_first_bad_line_is_told(self):
        self.assert_bad(1, "table a k -\ntable\ntable")
        self.assert_bad(1, "table a k -\nrule r row b put -\nx")
        self.assert_bad(2, "table a k -\nrule r row a put -\nx\n")
        self.assert_bad(2, "table a k -\nrule r row a put -\nrule s row a put -\ndo drop a 1")


class SpoiledTest(TextAsking):
    def test_one_sign_otherwise_at_any_place(self):
        for at in range(len(TEXT) + 1):
            self.assert_as_naive(TEXT[:at] + TEXT[at + 1:])
            for sign in SIGNS:
                self.assert_as_naive(TEXT[:at] + sign + TEXT[at:])
                self.assert_as_naive(TEXT[:at] + sign + TEXT[at + 1:])

    def test_one_line_otherwise_at_any_place(self):
        for at in range(len(LINES) + 1):
            self.assert_as_naive("\n".join(LINES[:at] + LINES[at + 1:]))
            for line in LINES:
                self.assert_as_naive("\n".join(LINES[:at] + [line] + LINES[at:]))
                self.assert_as_naive("\n".join(LINES[:at] + [line] + LINES[at + 1:]))

    def test_one_word_otherwise_at_any_place(self):
        words = ["-", "0", "-0", "a", "id", "size", "rooms", "beds", "many", "old.id", "new.room",
                 "put", "ahead", "deed", "carry", "fallback", "1000000000", "1000000001", ""]
        for at, line in enumerate(LINES):
            parts = line.split(" ")
            for place in range(len(parts)):
                for word in words:
                    made = " ".join(parts[:place] + [word] + parts[place + 1:])
                    self.assert_as_naive("\n".join(LINES[:at] + [made] + LINES[at + 1:]))

    def test_cast_plans(self):
        for seed in range(40):
            text = plan_text(cast_run(seed)[0])
            for at in range(seed % 7, len(text), 7):
                for sign in " -1a\n":
                    self.assert_as_naive(text[:at] + sign + text[at + 1:])
