"""Which line of a text is the first bad one, told by patterns made from the lines ahead.

Written from the document's words alone; it shares nothing with the package.
"""
import re

NAME = "[a-z]{1,8}"
NUMBER = "(?:0|-?[1-9][0-9]{0,8}|-?1000000000)"
COUNT = "(?:0|[1-9][0-9]{0,8}|1000000000)"
WORTH = f"(?:-|{NUMBER})"
WAYS = "(?:bar|carry|empty|fallback|look)"
KEY_WAYS = "(?:bar|carry|look)"


def fits(patterns, line):
    return any(re.fullmatch(pattern, line) for pattern in patterns)


def one_of(parts):
    return "(?:" + "|".join([re.escape(part) for part in parts] or ["(?!)"]) + ")"


class Reader:
    def __init__(self):
        self.tables, self.ties, self.rules = {}, [], []
        # Of the last rule: its words, whether its test is told, how many acts.
        self.last, self.tested, self.acts = None, False, 0
        self.keys = None

    def lacks(self):
        if not self.tables:
            return True
        if self.last is None:
            return False
        return not self.tested if self.last[2] == "ahead" else self.acts == 0

    def plan_patterns(self):
        told = []
        if self.last is not None:
            ahead = self.last[2] == "ahead"
            if not self.tested and self.acts == 0:
                told.append(f"if {self.place()} (?:less|like|unlike) {self.place()}")
            if not ahead and self.acts < 3:
                told += self.act_patterns()
        elif not self.ties and len(self.tables) < 6:
            told.append(f"table {NAME} {NAME} -(?: {NAME} {WORTH}){{0,4}}")
        if self.last is None and self.tables and len(self.ties) < 10:
            told += self.tie_patterns()
        if not self.lacks() and len(self.rules) < 8:
            told += self.rule_patterns()
        return told

    def tie_patterns(self):
        others, told = one_of(self.tables), []
        for table, columns in self.tables.items():
            for column in columns:
                ways = KEY_WAYS if column == columns[0] else WAYS
                told.append(f"tie {NAME} {table} {column} {others} {ways} {ways} (?:once|end)")
        return told

    def rule_patterns(self):
        told = []
        for table, columns in self.tables.items():
            told.append(f"rule {NAME} (?:ahead|row|deed) {table} (?:put|drop|set) -")
            told.append(f"rule {NAME} (?:ahead|row|deed) {table} set {one_of(columns)}")
        return told

    def place(self):
        _, _, side, table, kind, _ = self.last
        if side == "deed":
            return f"(?:{WORTH}|many)"
        read = {"put": ["new"], "drop": ["old"], "set": ["old", "new"]}[kind]
        parts = [f"{when}.{column}" for when in read for column in self.tables[table]]
        return f"(?:{WORTH}|{one_of(parts)})"

    def act_patterns(self):
        place, told = self.place(), []
        for table, columns in self.tables.items():
            told.append(f"do put {table}(?: {place}){{{len(columns)}}}")
            told.append(f"do drop {table} {place}")
            told.append(f"do (?:set|add) {table} {place} {one_of(columns)} {place}")
        return told

    def take_plan(self, line):
        """Whether the line can stand there as one of the plan's."""
        if not fits(self.plan_patterns(), line):
            return False
        words = line.split(" ")
        if words[0] == "table":
            columns = words[2::2]
            if words[1] in self.tables or len(set(columns)) < len(columns):
                return False
            self.tables[words[1]] = columns
        elif words[0] == "tie":
            if words[1] in self.ties:
                return False
            self.ties.append(words[1])
        elif words[0] == "rule":
            if words[1] in self.rules:
                return False
            self.rules.append(words[1])
            self.last, self.tested, self.acts = words, False, 0
        elif words[0] == "if":
            self.tested = True
        else:
            self.acts += 1
        return True

    def take_row(self, line):
        keys = self.keys or {}
        for table, columns in self.tables.items():
            if fits([f"row {table} {NUMBER}(?: {WORTH}){{{len(columns) - 1}}}"], line):
                key = (table, line.split(" ")[2])
                self.keys = {**keys, key: True}
                return key not in keys and len(self.keys) <= 60
        return False

    def deed_patterns(self):
        told = []
        for table, columns in self.tables.items():
            told.append(f"put {table} {NUMBER}(?: {WORTH}){{{len(columns) - 1}}}")
            told.append(f"drop {table} {NUMBER}")
            told.append(f"set {table} {NUMBER} {columns[0]} {NUMBER}")
            told.append(f"set {table} {NUMBER} {one_of(columns[1:])} {WORTH}")
            told.append(f"sweep {table} {one_of(columns)} {WORTH}")
            told.append(f"shift {table} {one_of(columns)} {NUMBER}")
        return told

    def ask_patterns(self):
        deed = "(?:" + "|".join(self.deed_patterns()) + ")"
        told = [deed, "begin|leave|end|loose|open", f"(?:point|back)(?: {NAME})?"]
        told += [f"row {one_of(self.tables)} {NUMBER}", f"leaning {one_of(self.ties)} {NUMBER}"]
        told.append(f"(?:journal|why) {COUNT}")
        for table, columns in self.tables.items():
            told.append(f"way {deed} to {table} {NUMBER}(?: {one_of(columns)})?")
        return told


def bad_in_plan(text):
    """The number of the plan's first bad line, None where all can stand and nothing lacks."""
    reader, lines = Reader(), text.split("\n")
    for at, line in enumerate(lines):
        if not reader.take_plan(line):
            return at
    return len(lines) if reader.lacks() else None


def reader_of(tables):
    reader = Reader()
    reader.tables = {table: [column for column, _ in columns] for table, columns in tables}
    return reader


def bad_in_content(tables, text):
    reader = reader_of(tables)
    for at, line in enumerate(text.split("\n") if text else []):
        if not reader.take_row(line):
            return at
    return None


def bad_in_desk(text):
    reader, asks, lines = Reader(), None, text.split("\n")
    for at, line in enumerate(lines):
        if asks is not None:
            good = fits(asks, line)
        elif line == "store":
            good = not reader.lacks()
            asks = reader.ask_patterns()
        elif line.startswith("row"):
            good = not reader.lacks() and reader.take_row(line)
        else:
            good = reader.keys is None and reader.take_plan(line)
        if not good:
            return at
    return len(lines) if asks is None else None
