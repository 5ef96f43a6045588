"""What rules make of a deed, worked out from the document's words alone, slowly.

Like naive.py it shares nothing with the package. A refusal is raised as
Refused(name of the class, its fields one behind the other).
"""
from tests import naive


class Refused(Exception):
    pass


def refuse_own(plan, content, deed):
    rows = naive.all_rows(plan, content)
    if deed[0] in ("drop", "set") and (deed[1], deed[2]) not in rows:
        raise Refused("NoRow", deed[1], deed[2])
    if deed[0] == "put" and (deed[1], deed[2][0]) in rows:
        raise Refused("Taken", deed[1], deed[2][0])


def first_taken(plan, content, deed):
    """(table, key) of two rows that would have one key, None of none."""
    gone, cells = naive.brought(plan, content, deed)
    rows = naive.all_rows(plan, content)
    for table, key, column, worth in cells:
        rows[table, key][column] = worth
    for table, _ in plan[0]:
        name = naive.key_of(plan, table)
        keys = [row[name] for at, row in rows.items() if at[0] == table and at not in gone]
        twice = sorted({key for key in keys if keys.count(key) > 1})
        if twice:
            return table, twice[0]
    return None


def changes(plan, content, deed):
    """The (key, change) of all rows, as they are ordered."""
    gone, cells = naive.brought(plan, content, deed)
    rows = naive.all_rows(plan, content)
    told = []
    for table, _ in plan[0]:
        here = []
        if deed[0] == "put" and deed[1] == table:
            here.append((deed[2][0], ("put", table, None, tuple(deed[2]))))
        for (name, key), row in rows.items():
            old = tuple(row.values())
            mine = {cell[2]: cell[3] for cell in cells if cell[:2] == (table, key)}
            if name == table and (table, key) in gone:
                here.append((key, ("drop", table, old, None)))
            elif name == table and mine:
                here.append((key, ("set", table, old, tuple({**row, **mine}.values()))))
        told += sorted(here, key=lambda pair: pair[0])
    return told


def watched(plan, rule, change):
    if (rule[2], rule[3]) != (change[1], change[0]):
        return False
    if rule[4] is None:
        return True
    at = naive.columns_of(plan, rule[2]).index(rule[4])
    return change[2][at] != change[3][at]


def worth_at(plan, place, change, many):
    if not isinstance(place, tuple):
        return place
    if place == ("many",):
        return many
    row = change[{"old": 2, "new": 3}[place[0]]]
    return row[naive.columns_of(plan, change[1]).index(place[1])]


def test_holds(plan, rule, change, many):
    if rule[5] is None:
        return True
    one, other = (worth_at(plan, place, change, many) for place in rule[5][::2])
    if rule[5][1] == "less":
        return None not in (one, other) and one < other
    return one == other if rule[5][1] == "like" else one != other


def pairs_from_deed(plan, content, deed):
    """By each row that goes or is turned, of how many pairs a shortest way to it is."""
    gone, cells = naive.spread(plan, content, deed)
    first_gone, first_cells = naive.own(plan, content, deed)
    turned = {row for row in naive.all_rows(plan, content) if naive.turned_to(plan, gone, cells, row)}
    told = {row: 0 for row in first_gone}
    for cell in first_cells:
        if cell[2] == naive.key_of(plan, cell[0]) and cell[:2] in turned:
            told[cell[:2]] = 0
    while True:
        before = dict(told)
        for tie, low, key, high, h in naive.leanings(plan, content):
            goes = (high, h) in gone and tie[4] == "carry"
            turns = (high, h) in turned and tie[5] == "carry" and (low, key) in turned
            turns = turns and tie[2] == naive.key_of(plan, low)
            if (high, h) in told and (goes or turns):
                told[low, key] = min(told.get((low, key), 999), told[high, h] + 1)
        if told == before:
            return told


def cause_of(plan, content, deed, at, numbers):
    """The tie by which that row goes, or that cell is brought to its worth, and the entry."""
    gone, _ = naive.spread(plan, content, deed)
    far = pairs_from_deed(plan, content, deed)
    found = []
    for tie, low, key, high, h in naive.leanings(plan, content):
        if (low, key) != at[:2] or (high, h) not in far:
            continue
        how = tie[4] if (high, h) in gone else tie[5]
        if len(at) == 2:
            fits = how == "carry" and (high, h) in gone
        else:
            makes = ("empty", "fallback") + (("carry",) if (high, h) not in gone else ())
            fits = tie[2] == at[2] and how in makes
        if fits:
            row = (high, h) if (high, h) in gone else (high, h, naive.key_of(plan, high))
            place = [one[0] for one in plan[1]].index(tie[0])
            found.append((far[high, h], numbers[row], place, tie[0]))
    return ("tie", min(found)[3], min(found)[1])


def entries(plan, content, deed, done, first, cause):
    gone, cells = naive.brought(plan, content, deed)
    first_gone, first_cells = naive.own(plan, content, deed)
    rows = naive.all_rows(plan, content)
    order = list(gone) + [cell[:3] for cell in cells]
    numbers = {at: first + place for place, at in enumerate(order)}
    told = []
    for at in gone:
        why = cause if at in first_gone else cause_of(plan, content, deed, at, numbers)
        told.append((done, *at, None, tuple(rows[at].values()), None, why))
    for cell in cells:
        mine = cell in first_cells
        why = cause if mine else cause_of(plan, content, deed, cell[:3], numbers)
        told.append((done, *cell[:3], rows[cell[:2]][cell[2]], cell[3], why))
    if deed[0] == "put":
        told.append((done, deed[1], deed[2][0], None, None, tuple(deed[2]), cause))
    return told


class Run:
    def __init__(self, plan, content):
        self.plan, self.content = plan, [list(rows) for rows in content]
        self.journal, self.waiting, self.done = [], [], 0

    def do(self, deed, cause):
        plan, content = self.plan, self.content
        refuse_own(plan, content, deed)
        if naive.bars(plan, content, deed):
            raise Refused("Barred", *naive.bars(plan, content, deed)[0])
        if naive.parts(plan, content, deed):
            raise Refused("Parted", *naive.parts(plan, content, deed)[0][:3])
        made = changes(plan, content, deed)
        for key, change in made:
            for rule in plan[2]:
                if rule[1] == "ahead" and watched(plan, rule, change):
                    if test_holds(plan, rule, change, None):
                        raise Refused("Stopped", rule[0], change[1], key)
        if first_taken(plan, content, deed):
            raise Refused("Taken", *first_taken(plan, content, deed))
        behind = naive.behind(plan, content, deed)
        if naive.loose(plan, behind, ("once",)):
            raise Refused("Loose", naive.loose(plan, behind, ("once",)))
        self.journal += entries(plan, content, deed, self.done, len(self.journal), cause)
        self.content = behind
        self.wait(made)
        self.done += 1

    def wait(self, made):
        for rule in self.plan[2]:
            mine = [pair for pair in made if watched(self.plan, rule, pair[1])]
            several = {"ahead": [], "row": mine, "deed": mine[:1]}[rule[1]]
            for key, change in several:
                if test_holds(self.plan, rule, change, len(mine)):
                    self.waiting.append((rule, change, len(mine), self.entry_at(change[1], key)))

    def entry_at(self, table, key):
        """The number of the first entry of the deed that was done last, of that row."""
        for number, entry in enumerate(self.journal):
            if entry[:3] == (self.done, table, key):
                return number

    def take(self, at, most):
        rule, change, many, number = self.waiting.pop(at)
        for act in rule[6]:
            deed = self.deed_of(act, change, many)
            if deed is None:
                continue
            if self.done + 1 > most:
                raise Refused("TooMany", most)
            key = naive.key_of(self.plan, deed[1])
            if deed[0] == "set" and deed[3] == key and deed[4] is None:
                raise Refused("NoKey", rule[0])
            self.do(deed, ("rule", rule[0], number))

    def deed_of(self, act, change, many):
        rows = naive.all_rows(self.plan, self.content)
        places = act[2] if act[0] == "put" else act[2:]
        worths = [worth_at(self.plan, place, change, many) for place in places if place != act[3:4]]
        if act[0] == "put":
            return None if worths[0] is None else ("put", act[1], tuple(worths))
        key = worth_at(self.plan, act[2], change, many)
        if key is None or (act[1], key) not in rows:
            return None
        if act[0] == "drop":
            return ("drop", act[1], key)
        worth = worth_at(self.plan, act[4], change, many)
        if act[0] == "add":
            now = rows[act[1], key][act[3]]
            if now is None or worth is None:
                return None
            worth += now
        return ("set", act[1], key, act[3], worth)


def ran(plan, content, deed, order=(), most=40):
    run, takings = Run(plan, content), 0
    run.do(deed, ("deed",))
    while run.waiting:
        at = order[takings] if takings < len(order) else 0
        run.take(at % len(run.waiting), most)
        takings += 1
    return run.content, run.journal


def ends(plan, content, deed, most, ahead=()):
    """All whole orders with the content at the end of each, None if refused.

    Orders that are longer than most are told with "long" for an end.
    """
    run = Run(plan, content)
    try:
        run.do(deed, ("deed",))
        for at in ahead:
            run.take(at, 40)
    except Refused:
        return [(list(ahead), None)]
    if not run.waiting:
        return [(list(ahead), run.content)]
    if len(ahead) == most:
        return [(list(ahead), "long")]
    told = []
    for at in range(len(run.waiting)):
        told += ends(plan, content, deed, most, (*ahead, at))
    return told


def may_bring(plan, kind):
    """The set of kinds of change that one of that kind can bring, itself too."""
    found = {kind}
    while True:
        more = set()
        for table, how, column in found:
            for _, low, place, other, gone, turned, _ in plan[1]:
                if other == table and how == "drop" and gone == "carry":
                    more.add((low, "drop", None))
                if other == table and how == "drop" and gone in ("empty", "fallback"):
                    more.add((low, "set", place))
                turns = how == "set" and column == naive.key_of(plan, table)
                if other == table and turns and turned in ("carry", "empty", "fallback"):
                    more.add((low, "set", place))
        if more <= found:
            return found
        found |= more


def kinds_of_acts(plan, rule):
    told = set()
    for act in rule[6]:
        how = {"add": "set"}.get(act[0], act[0])
        told |= may_bring(plan, (act[1], how, act[3] if how == "set" else None))
    return told


def sets_off(plan):
    told = []
    for rule in plan[2]:
        for other in plan[2]:
            columns = naive.columns_of(plan, other[2]) + [None]
            watched_columns = columns if other[4] is None else [other[4]]
            kinds = {(other[2], other[3], column) for column in watched_columns}
            if other[1] != "ahead" and kinds & kinds_of_acts(plan, rule):
                told.append((rule[0], other[0]))
    return told


def meets(plan):
    names = [rule[0] for rule in plan[2]]
    reach = {}
    for rule in plan[2]:
        near = {table for table, _, _ in kinds_of_acts(plan, rule)}
        tied = {tie[1] for tie in plan[1] if tie[3] in near}
        reach[rule[0]] = near | tied | {tie[3] for tie in plan[1] if tie[1] in near}
    for _ in names:
        for rule, other in sets_off(plan):
            reach[rule] = reach[rule] | reach[other]
    return [(rule, other) for at, rule in enumerate(names) for other in names[at:]
            if reach[rule] & reach[other]]
