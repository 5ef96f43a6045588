"""A store kept slowly: all that stands is worked out anew from the deeds that stand.

Written from the document's words alone, on top of naive_run.py; refusals are
raised as naive_run.Refused.
"""
from tests import naive
from tests.naive_run import Refused, ran


class NaiveStore:
    def __init__(self, plan, content, most=40):
        self.plan, self.start, self.most = plan, content, most
        # Of each dealing that is over (word, deeds that stand of it, journal's length then).
        self.over = []
        # Of the open one ("deed", deed) and ("point", name), one behind the other.
        self.now = None
        # What deeds come to, as they are asked for again and again.
        self.known = {(): (content, [])}

    def standing(self, many=None):
        """The deeds of the dealings that are done, of so many dealings or all."""
        return [deed for _, deeds, _ in self.over[:many] for deed in deeds]

    def deeds(self):
        return self.standing() + [part for kind, part in self.now or [] if kind == "deed"]

    def state(self, deeds=None):
        """The content and the journal behind the deeds, those that stand if none are told."""
        deeds = tuple(self.deeds() if deeds is None else deeds)
        if deeds not in self.known:
            content, journal = self.state(deeds[:-1])
            behind, entries = ran(self.plan, content, deeds[-1], (), self.most)
            self.known[deeds] = (behind, journal + numbered(journal, entries))
        return self.known[deeds]

    def content(self):
        return self.state()[0]

    def journal(self):
        return self.state()[1]

    def is_open(self):
        return self.now is not None

    def do(self, deed):
        before = len(self.journal())
        try:
            content, journal = self.state(self.deeds() + [deed])
            if not self.is_open() and naive.loose(self.plan, content, ("end",)):
                raise Refused("Loose", naive.loose(self.plan, content, ("end",)), "end")
        except Refused as refused:
            if not self.is_open():
                word = "loose" if refused.args[-1] == "end" else "refused"
                self.over.append((word, [], before))
            raise
        if self.is_open():
            self.now.append(("deed", deed))
        else:
            self.over.append(("done", [deed], len(journal)))
        return journal[before:]

    def begin(self):
        if self.is_open():
            raise Refused("Open")
        self.now = []

    def ask_open(self):
        if not self.is_open():
            raise Refused("NotOpen")

    def point(self, name=""):
        self.ask_open()
        self.now = [part for part in self.now if part != ("point", name)] + [("point", name)]

    def back(self, to=""):
        self.ask_open()
        if ("point", to) in self.now:
            self.now = self.now[:self.now.index(("point", to)) + 1]
        elif to == "":
            self.now = []
        else:
            raise Refused("NoSuch", "point", to)

    def leave(self):
        self.ask_open()
        self.now = None
        self.over.append(("left", [], len(self.journal())))

    def end(self):
        self.ask_open()
        pairs = naive.loose(self.plan, self.content(), ("once", "end"))
        if pairs:
            self.now = None
            self.over.append(("loose", [], len(self.journal())))
            raise Refused("Loose", pairs)
        deeds = [part for kind, part in self.now if kind == "deed"]
        length = len(self.journal())
        self.now = None
        self.over.append(("done", deeds, length))
        return len(self.over) - 1

    def book(self):
        told, length = [], 0
        for number, (word, _, behind) in enumerate(self.over):
            told.append((number, length if word == "done" else behind, behind, word))
            length = behind
        return told

    def since(self, number):
        if number not in range(len(self.over)) or self.over[number][0] != "done":
            raise Refused("NoSuch", "dealing", number)
        other = NaiveStore(self.plan, self.start, self.most)
        other.over = self.over[:number + 1]
        return other

    def why(self, number):
        journal = self.journal()
        if number not in range(len(journal)):
            raise Refused("NoSuch", "entry", number)
        cause = journal[number][6]
        return [number] + ([] if cause == ("deed",) else self.why(cause[2]))

    def twin(self):
        other = NaiveStore(self.plan, self.start, self.most)
        other.over = list(self.over)
        other.now = None if self.now is None else list(self.now)
        return other


def numbered(journal, entries):
    """The entries as they stand behind the journal."""
    deeds = journal[-1][0] + 1 if journal else 0
    told = []
    for deed, *parts, cause in entries:
        if cause != ("deed",):
            cause = (*cause[:2], cause[2] + len(journal))
        told.append((deed + deeds, *parts, cause))
    return told
