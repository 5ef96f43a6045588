from tests import naive, naive_texts
from tests.dice import Dice, cast_deed_there, cast_run
from tests.naive_run import Refused
from tests.naive_store import NaiveStore
from tests.parts import Asking
from tiedtables.contenttexts import content_text
from tiedtables.desk import run
from tiedtables.errors import BadLine, Loose, Ring, TableError
from tiedtables.plantexts import plan_text
from tiedtables.ranks import ranks
from tiedtables.ways import way_to

PLAN = """table rooms id - size 4
table beds id - room - next -
table to to -
tie in beds room rooms empty carry once
tie by beds next beds carry look end
tie bar to to beds bar look end
rule grow row beds set room
if new.room like -
do add rooms 2 size 1
rule full ahead rooms put -
if new.size less 0"""
ROWS = """row rooms 1 4
row rooms 2 6
row beds 8 1 7
row beds 7 2 -
row beds 9 1 -
row to 9"""
HEAD = PLAN + "\n" + ROWS + "\nstore"


class DeskAsking(Asking):
    def assert_answers_so(self, *pairs, head=HEAD):
        """Of pairs (line, answer) the lines, one behind the other, are answered so."""
        text = "\n".join([head, *[line for line, _ in pairs]])
        told = run(text)
        self.assertEqual(list(zip(text.split("\n")[-len(pairs):], told)), list(pairs))
        self.assert_tells(told, run, text)

    def assert_bad(self, line, text):
        self.assert_refused(BadLine, {"line": line}, run, text)


class AnswersTest(DeskAsking):
    def test_nothing_asked(self):
        self.assert_tells([], run, HEAD)
        self.assert_tells([], run, "table a k -\nstore")
        self.assertEqual(run(text=HEAD), [])

    def test_deeds(self):
        self.assert_answers_so(
            ("put rooms 3 -", "1"), ("put to 5", "refused Loose"), ("drop beds 9", "refused Barred"),
            ("put to 8", "1"), ("set rooms 1 size 5", "1"), ("set rooms 1 size 5", "0"),
            ("set rooms 2 id 20", "2"), ("shift rooms size 1", "2"), ("sweep rooms size 6", "3"),
            ("put rooms 4 -1", "refused Stopped"), ("put rooms 3 0", "refused Taken"),
            ("drop rooms 77", "refused NoRow"), ("shift beds room 0", "0"), ("sweep beds next -", "refused Barred"),
            ("sweep to to 8", "1"), ("sweep beds next 7", "1"))

    def test_a_rules_deeds_are_counted(self):
        # Both beds of the room lose it, and each has the other room grow.
        self.assert_answers_so(("drop rooms 1", "5"), ("row rooms 2", "2 8"), ("row beds 8", "8 - 7"))

    def test_row(self):
        self.assert_answers_so(
            ("row rooms 1", "1 4"), ("row rooms 3", "-"), ("row beds 7", "7 2 -"), ("row to 9", "9"),
            ("row to -9", "-"), ("row rooms 1000000000", "-"))

    def test_leaning(self):
        self.assert_answers_so(
            ("leaning in 1", "8; 9"), ("leaning in 2", "7"), ("leaning in 3", "-"), ("leaning by 7", "8"),
            ("leaning bar 9", "9"), ("leaning by -1000000000", "-"))

    def test_loose_and_open(self):
        self.assert_answers_so(
            ("loose", "-"), ("open", "no"), ("begin", "ok"), ("open", "yes"), ("put to 4", "1"),
            ("put beds 6 - 5", "1"), ("put beds 3 - 30", "1"), ("loose", "by 3; by 6; bar 4"),
            ("end", "refused Loose"), ("loose", "-"), ("open", "no"), ("row to 4", "-"))

    def test_dealings(self):
        self.assert_answers_so(
            ("point", "refused NotOpen"), ("point a", "refused NotOpen"), ("back", "refused NotOpen"),
            ("back a", "refused NotOpen"), ("leave", "refused NotOpen"), ("end", "refused NotOpen"),
            ("begin", "ok"), ("begin", "refused Open"), ("put rooms 5 5", "1"), ("point a", "ok"),
            ("put rooms 6 6", "1"), ("point", "ok"), ("put rooms 7 7", "1"), ("back", "ok"),
            ("row rooms 7", "-"), ("row rooms 6", "6 6"), ("back a", "ok"), ("row rooms 6", "-"),
            ("row rooms 5", "5 5"), ("back", "ok"), ("row rooms 5", "-"), ("back a", "refused NoSuch"),
            ("put rooms 8 8", "1"), ("end", "0"), ("row rooms 8", "8 8"), ("begin", "ok"),
            ("drop rooms 8", "1"), ("leave", "ok"), ("row rooms 8", "8 8"), ("begin", "ok"),
            ("end", "2"), ("drop rooms 77", "refused NoRow"), ("begin", "ok"), ("end", "4"))

    def test_journal_and_why(self):
        self.assert_answers_so(
            ("journal 0", "-"), ("why 0", "refused NoSuch"),
            ("drop rooms 1", "5"),
            ("journal 0", "0 rooms 1 - 1,4 - deed; 0 beds 8 room 1 - tie in 0; "
                          "0 beds 9 room 1 - tie in 0; 1 rooms 2 size 6 7 rule grow 1; "
                          "2 rooms 2 size 7 8 rule grow 2"),
            ("journal 4", "2 rooms 2 size 7 8 rule grow 2"), ("journal 5", "-"),
            ("journal 1000000000", "-"), ("why 0", "0"), ("why 1", "1; 0"), ("why 4", "4; 2; 0"),
            ("why 5", "refused NoSuch"),
            ("put beds -3 - -3", "1"), ("journal 5", "3 beds -3 - - -3,-,-3 deed"),
            ("put to -3", "1"), ("journal 6", "4 to -3 - - -3 deed"),
            ("set beds -3 room 2", "1"), ("journal 7", "5 beds -3 room - 2 deed"),
            ("sweep to to -3", "1"), ("journal 8", "6 to -3 - -3 - deed"))

    def test_way(self):
        self.assert_answers_so(
            ("way drop rooms 1 to rooms 1", "0"), ("way drop rooms 1 to beds 8 room", "1"),
            ("way drop rooms 1 to beds 8", "-"), ("way drop rooms 1 to beds 7 room", "-"),
            ("way drop beds 7 to beds 8", "1"), ("way drop beds 8 to beds 7", "-"),
            ("way set rooms 2 id 5 to beds 7 room", "1"), ("way set rooms 2 id 5 to rooms 2 id", "0"),
            ("way sweep beds room 2 to beds 8", "1"), ("way shift rooms id 5 to beds 9 room", "1"),
            ("way put rooms 5 5 to rooms 5", "-"), ("way put rooms 1 5 to rooms 1", "refused Taken"),
            ("way drop rooms 3 to rooms 1", "refused NoRow"), ("way drop beds 9 to beds 9", "0"),
            ("way drop to 9 to to 9", "0"), ("way drop to 9 to to 9 to", "-"), ("way put to 9 to to 9",
             "refused Taken"), ("way set to 9 to 8 to to 9 to", "0"), ("way shift to to 1 to to 9 to", "0"),
            ("way sweep to to - to to 9", "-"), ("way put to 3 to to 3 to", "-"), ("row rooms 1", "1 4"))

    def test_way_by_the_stores_content_then(self):
        self.assert_answers_so(
            ("begin", "ok"), ("put beds 6 - 8", "1"), ("way drop beds 7 to beds 6", "2"),
            ("back", "ok"), ("way drop beds 7 to beds 6", "-"), ("leave", "ok"))

    def test_great_numbers(self):
        self.assert_answers_so(
            ("set rooms 1 size 1000000000", "1"), ("shift rooms size 1000000000", "2"),
            ("shift rooms size 1000000000", "2"), ("row rooms 1", "1 3000000000"))

    def test_hundred_deeds(self):
        told = run("\n".join([HEAD] + ["shift rooms size 1"] * 100 + ["row rooms 1", "why 199"]))
        self.assertEqual(told, ["2"] * 100 + ["1 104", "199"])

    def test_too_many_and_no_key(self):
        lines = ["table a k - x - y -", "rule r row a set x", "if new.x like 1"]
        lines += ["do set a 1 y 2"] * 3 + ["rule s row a put -", "do set a new.k k new.x"]
        lines += [f"row a {key} 0 0" for key in range(20)]
        self.assert_answers_so(
            ("put a 30 - 1", "refused NoKey"), ("put a 30 31 1", "2"), ("shift a x 1", "refused TooMany"),
            ("shift a x -1", "21"), ("row a 31", "31 30 1"), head="\n".join([*lines, "store"]))


class BadLineTest(DeskAsking):
    def assert_bad_asks(self, *lines):
        at = HEAD.count("\n") + 2
        for line in lines:
            with self.subTest(line=line):
                self.assert_bad(at, "\n".join([HEAD, "open", line]))
                self.assert_bad(at, "\n".join([HEAD, "open", line, "x"]))

    def test_deeds(self):
        self.assert_bad_asks(
            "put", "put ", "put rooms", "put rooms 1", "put rooms 1 2 3", "put rooms - 2", "put halls 1 2",
            "put rooms 1 2 ", "put  rooms 1 2", "put rooms 1 02", "put rooms 1 1000000001",
            "drop", "drop rooms", "drop rooms -", "drop rooms 1 1", "drop halls 1", "drop rooms size",
            "set rooms 1 size", "set rooms 1 room 1", "set rooms - size 1", "set rooms 1 id -",
            "set rooms 1 - 1", "set rooms 1 size 1 1", "set rooms 1 size -0",
            "sweep rooms size", "sweep rooms room 1", "sweep rooms size 1 1", "sweep rooms 1 size",
            "shift rooms size", "shift rooms size -", "shift rooms room 1", "shift rooms size 01",
            "add rooms 1 size 1", "do drop rooms 1", "Put rooms 1 2", "drop  rooms 1", " drop rooms 1")

    def test_asks(self):
        self.assert_bad_asks(
            "", " ", "-", "store", "begin ", "begin a", " begin", "leave a", "end 0", "loose in", "open 1",
            "point ", "point A", "point a b", "point aaaaaaaaa", "point -", "point 1", "point  a",
            "back ", "back A", "back a b", "back -", "row", "row rooms", "row rooms -", "row rooms 1 4",
            "row halls 1", "row rooms a", "leaning", "leaning in", "leaning in -", "leaning on 1",
            "leaning in 1 1", "leaning rooms 1", "journal", "journal -", "journal -1", "journal 01",
            "journal 1000000001", "journal 1 1", "journal a", "journal -0", "why", "why -", "why -1",
            "why 00", "why 1000000001", "why 0 0", "content", "book", "since 0", "twin", "table a k -")

    def test_ways(self):
        self.assert_bad_asks(
            "way", "way ", "way to rooms 1", "way drop rooms 1", "way drop rooms 1 to", "way drop rooms 1 to rooms",
            "way drop rooms 1 to rooms -", "way drop rooms 1 to halls 1", "way drop rooms 1 to rooms 1 room",
            "way drop rooms 1 to rooms 1 id 1", "way drop rooms 1 rooms 1", "way drop rooms 1 at rooms 1",
            "way drop rooms - to rooms 1", "way drop halls 1 to rooms 1", "way put", "way put rooms",
            "way put rooms 1 to rooms 1", "way put rooms 1 2 3 to rooms 1", "way put halls 1 2 to rooms 1",
            "way set rooms 1 id - to rooms 1", "way shift rooms id - to rooms 1", "way begin to rooms 1",
            "way drop  rooms 1 to rooms 1", "way drop rooms 1 to rooms 1 ", "way way drop rooms 1 to rooms 1",
            "way drop rooms 1 to rooms 1 -", "way drop rooms 1 to rooms 1000000001", "way drop to 9 to 9",
            "way put to to to 9", "way row rooms 1 to rooms 1")

    def test_the_bare_text_and_store(self):
        self.assert_bad(0, "")
        self.assert_bad(0, "store")
        self.assert_bad(0, "store\nopen")
        self.assert_bad(0, "\n" + HEAD)
        self.assert_bad(HEAD.count("\n") + 1, HEAD + "\n")
        self.assert_bad(HEAD.count("\n"), HEAD + " ")
        self.assert_bad(HEAD.count("\n") + 1, HEAD + "\nstore")

    def test_no_line_is_store(self):
        self.assert_bad(1, "table a k -")
        self.assert_bad(17, PLAN + "\n" + ROWS)
        self.assert_bad(11, PLAN)
        # So it is too where the plan lacks something at the end.
        self.assert_bad(2, "table a k -\nrule r row a put -")
        self.assert_bad(3, "table a k -\nrow a 1\nrow a 2")

    def test_the_plan_lacks_something_as_store_comes(self):
        self.assert_bad(2, "table a k -\nrule r row a put -\nstore\nx")
        self.assert_bad(3, "table a k -\nrule r row a put -\nif 0 like 0\nstore")
        self.assert_bad(2, "table a k -\nrule r ahead a put -\nstore")

    def test_the_plan_lacks_something_as_rows_come(self):
        self.assert_bad(2, "table a k -\nrule r row a put -\nrow a 1\nstore")
        self.assert_bad(0, "row a 1\nstore")

    def test_lines_of_the_plan_behind_rows(self):
        for line in ("table b k -", "tie t a k a look look end", "rule r row a put -", "if 0 like 0",
                     "do drop a 1", ""):
            self.assert_bad(2, f"table a k -\nrow a 1\n{line}\nstore")

    def test_bad_rows(self):
        for line in ("row a 1", "row a", "row b 1", "row a -", "row a 2 2", "row  a 2", "row", "row "):
            self.assert_bad(2, f"table a k -\nrow a 1\n{line}\nstore")
        rows = "\n".join(f"row a {key}" for key in range(60))
        self.assertEqual(run(f"table a k -\n{rows}\nstore\nrow a 59\nrow a 60"), ["59", "-"])
        self.assert_bad(61, f"table a k -\n{rows}\nrow a 60\nstore")

    def test_bad_lines_go_ahead_of_ring_and_loose(self):
        ring = "table a k -\nrule r row a put -\ndo put a 1"
        loose = "tie t a k a look look end"
        lines = ring.split("\n")
        both = "\n".join([lines[0], "tie t a k b look look end", "table b k -"])
        self.assert_bad(1, both)
        text = f"table a k - x -\n{loose.replace('a k a', 'a x a')}\nrule r row a put -\ndo put a 1 1\nrow a 1 2\nstore"
        self.assert_refused(Ring, {"ring": ["r"]}, run, text)
        self.assert_refused(Ring, {"ring": ["r"]}, run, text + "\nopen\ndrop a 1")
        self.assert_bad(7, text + "\nopen\nopened")
        text = text.replace("\nrule r row a put -\ndo put a 1 1", "")
        self.assert_refused(Loose, {"pairs": [("t", 1)]}, run, text)
        self.assert_refused(Loose, {"pairs": [("t", 1)]}, run, text + "\nput a 1 -")
        self.assert_bad(4, text + "\nput a 1")
        self.assertEqual(run(text.replace("row a 1 2", "row a 1 1") + "\nloose"), ["-"])


class SpoiledTest(DeskAsking):
    TEXT = HEAD + """
put rooms 3 -
set rooms 1 size 5
shift rooms id -1
point a
journal 1
leaning by 7
way drop to 9 to to 9 to
way put rooms 5 5 to beds 7"""

    def assert_as_naive(self, text):
        line = naive_texts.bad_in_desk(text)
        with self.subTest(text=text):
            try:
                told = run(text)
                self.assertIsNone(line)
                lines = text.split("\n")
                self.assertEqual(len(told), len(lines) - lines.index("store") - 1)
                for answer in told:
                    self.assertIsInstance(answer, str)
            except BadLine as bad:
                self.assertEqual(bad.line, line)
            except (Ring, Loose):
                self.assertIsNone(line)

    def test_one_sign_otherwise_at_any_place(self):
        self.assert_as_naive(self.TEXT)
        for at in range(len(self.TEXT) + 1):
            self.assert_as_naive(self.TEXT[:at] + self.TEXT[at + 1:])
            for sign in " -0a\n":
                self.assert_as_naive(self.TEXT[:at] + sign + self.TEXT[at:])
                self.assert_as_naive(self.TEXT[:at] + sign + self.TEXT[at + 1:])

    def test_one_line_otherwise_at_any_place(self):
        lines = self.TEXT.split("\n")
        for at in range(len(lines) + 1):
            self.assert_as_naive("\n".join(lines[:at] + lines[at + 1:]))
            for line in [*lines, "", "row rooms 5 5", "begin", "way"]:
                self.assert_as_naive("\n".join(lines[:at] + [line] + lines[at:]))
                self.assert_as_naive("\n".join(lines[:at] + [line] + lines[at + 1:]))

    def test_one_word_otherwise_at_any_place(self):
        lines = self.TEXT.split("\n")
        for at, line in enumerate(lines):
            parts = line.split(" ")
            for place in range(len(parts)):
                for word in ("-", "0", "-1", "id", "rooms", "to", "in", "drop", "way", "store", ""):
                    made = " ".join(parts[:place] + [word] + parts[place + 1:])
                    self.assert_as_naive("\n".join(lines[:at] + [made] + lines[at + 1:]))


def words_of(deed):
    parts = [*deed[:2], *deed[2]] if deed[0] == "put" else deed
    return " ".join("-" if part is None else str(part) for part in parts)


def worths_text(row, between):
    return between.join("-" if worth is None else str(worth) for worth in row)


def entry_text(entry):
    deed, table, key, column, old, new, cause = entry
    worths = [worths_text(part if isinstance(part, tuple) else (part,), ",") for part in (old, new)]
    return " ".join([str(deed), table, str(key), column or "-", *worths, *map(str, cause)])


class WalkTest(DeskAsking):
    """Desks that use every line, held against a slow keeping."""

    def answer(self, store, line, deed=None):
        try:
            return self.told(store, line, deed)
        except Refused as refused:
            return "refused " + refused.args[0]
        except TableError as error:
            return "refused " + type(error).__name__

    def told(self, store, line, deed):
        words = line.split(" ")
        if words[0] == "way":
            aim = words[words.index("to", 4) + 1:]
            way = way_to(store.plan, store.content(), deed, aim[0], int(aim[1]), *aim[2:])
            return "-" if way is None else str(len(way))
        if deed is not None:
            return str(len(store.do(deed)))
        if words[0] in ("begin", "leave", "end", "point", "back"):
            told = getattr(store, words[0])(*words[1:])
            return "ok" if told is None else str(told)
        if words[0] == "row":
            rows = naive.all_rows(store.plan, store.content())
            row = rows.get((words[1], int(words[2])))
            return "-" if row is None else worths_text(row.values(), " ")
        several = {
            "leaning": lambda: [str(low) for tie, _, low, _, high in naive.leanings(
                store.plan, store.content()) if [tie[0], str(high)] == words[1:]],
            "loose": lambda: [f"{tie} {key}" for tie, key in naive.loose(
                store.plan, store.content(), ("once", "end"))],
            "open": lambda: ["yes" if store.is_open() else "no"],
            "journal": lambda: [entry_text(entry) for entry in store.journal()[int(words[1]):]],
            "why": lambda: [str(number) for number in store.why(int(words[1]))],
        }[words[0]]()
        return "; ".join(several) or "-"

    def cast_line(self, dice, store):
        """A line, and its deed where it has one."""
        plan = store.plan
        if dice.below(3) == 0:
            deed = cast_deed_there(dice, plan, store.content())
            return words_of(deed), deed
        table, columns = dice.one_of(plan[0])
        line = dice.one_of((
            "begin", "begin", "point", "point a", "back", "back a", "back b", "leave", "end", "end",
            "loose", "open", f"row {table} {dice.below(6)}", f"journal {dice.below(5)}",
            f"why {dice.below(9)}", "way", "way", "leaning"))
        if line == "leaning":
            ties = [tie[0] for tie in plan[1]]
            return (f"leaning {dice.one_of(ties)} {dice.below(6)}" if ties else "open"), None
        if line == "way":
            deed = cast_deed_there(dice, plan, store.content())
            column = dice.one_of(["", *[" " + column for column, _ in columns]])
            return f"way {words_of(deed)} to {table} {dice.below(6)}{column}", deed
        return line, None

    def test_walks(self):
        seen = {}
        for seed in range(120):
            plan, content, _ = cast_run(seed)
            if ranks(plan)[1] is not None:
                continue
            dice, store = Dice(seed + 11), NaiveStore(plan, content)
            lines, answers = [plan_text(plan), content_text(plan[0], content), "store"], []
            for _ in range(40):
                line, deed = self.cast_line(dice, store)
                lines.append(line)
                answers.append(self.answer(store, line, deed))
                kind = answers[-1] if answers[-1].startswith("refused") else line.split(" ")[0]
                seen[kind] = seen.get(kind, 0) + 1
            with self.subTest(seed=seed):
                told = run("\n".join([line for line in lines if line]))
                self.assertEqual(list(zip(lines[3:], told)), list(zip(lines[3:], answers)))
                self.assertEqual(len(told), 40)
        for kind in ("put", "drop", "set", "sweep", "shift", "begin", "point", "back", "leave", "end",
                     "row", "leaning", "loose", "open", "journal", "why", "way", "refused Open",
                     "refused NotOpen", "refused NoSuch", "refused Loose", "refused Taken",
                     "refused NoRow", "refused Barred", "refused Stopped"):
            self.assertGreater(seen.get(kind, 0), 2, kind)
