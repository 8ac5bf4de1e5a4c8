"""A line by the words of the document, deed by deed: what Line tells is held against this."""

from tests.deedsdrawn import Told

STAGES = ["read", "first", "second", "last"]


class SlowDeed:
    def __init__(self, number, deed, tail):
        self.number, self.deed = number, deed
        self.cell = deed[1]
        self.reads = [] if deed[0] == "put" else list(deed[2:-1])
        self.needs = {"put": 1, "add": 1, "take": 1, "times": 2, "join": 2, "over": tail + 4}[deed[0]]
        self.stage = "waits"
        self.had = 0
        self.words = None
        self.outcome = None


class SlowLine:
    def __init__(self, form, quick=True):
        self.form, self.quick = form, quick
        self.deeds = []
        self.cells = [0] * 8
        self.ticks = 0

    def feed(self, deed):
        self.deeds.append(SlowDeed(len(self.deeds), deed, self.form.tail))

    def at(self, stage):
        found = [deed for deed in self.deeds if deed.stage == stage]
        assert len(found) <= 1
        return found[0] if found else None

    def tick(self, held=()):
        self.ticks += 1
        done = []
        last, second, first, read = [self.at(stage) for stage in reversed(STAGES)]
        if last and "last" not in held:
            self.cells[last.cell] = last.outcome[0]
            last.stage = "done"
            done.append(last.number)
        if second and "second" not in held and not self.at("last"):
            second.stage = "last"
        if first and "first" not in held:
            first.had += 1
            if first.had >= first.needs and not self.at("second"):
                first.stage = "second"
        if read and "read" not in held and not self.at("first"):
            words = [self.word_in(cell) for cell in read.reads]
            if None not in words:
                read.words, read.stage = words, "first"
                read.outcome = self.outcome_of(read)
        if not self.at("read") and "read" not in held:
            for deed in self.deeds:
                if deed.stage == "waits":
                    deed.stage = "read"
                    break
        return done

    def word_in(self, cell):
        ahead = [deed for deed in self.deeds if deed.stage in STAGES[1:] and deed.cell == cell]
        if not ahead:
            return self.cells[cell]
        if self.quick and ahead[-1].stage == "last":
            return ahead[-1].outcome[0]
        return None

    def outcome_of(self, deed):
        op, cell, *rest = deed.deed
        return (rest[0], ()) if op == "put" else Told(self.form, []).exact.done(op, deed.words, rest[-1])

    def inside(self):
        found = [self.at(stage) for stage in STAGES]
        return [deed and deed.number for deed in found]

    def waiting(self):
        return [deed.number for deed in self.deeds if deed.stage == "waits"]

    def many(self):
        return len([deed for deed in self.deeds if deed.stage == "done"])
