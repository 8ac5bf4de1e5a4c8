"""A line of stages: deeds go through it one behind the other, and may be held."""

from guessedzeros.adding import add_steps, take_steps
from guessedzeros.deeds import cell_of, cells_read, is_deed, outcome_by
from guessedzeros.errors import BadDeed, NoDeed, NoStage, Stuck
from guessedzeros.forms import Form
from guessedzeros.joining import join_steps
from guessedzeros.multiplying import times_steps
from guessedzeros.plainunit import PlainUnit

STAGES = ("read", "first", "second", "last")


class Line:
    """Deeds by their numbers, where they are, and a unit with the cells that those done have left."""

    def __init__(self, form, *, quick=True):
        self.form = Form(form.scale, form.tail)
        self.quick = quick
        self.unit = PlainUnit(form)
        self.fed = []
        # Of each deed the words that it read, None as long as it hasn't left read.
        self.read_words = []
        self.entered = 0
        self.places = {stage: None for stage in STAGES}
        # Ticks that the deed in first has had there.
        self.spent = 0
        self.tick_count = 0

    def feed(self, deed):
        if not is_deed(self.form, deed):
            raise BadDeed(deed)
        self.fed.append(deed)
        self.read_words.append(None)
        return len(self.fed) - 1

    def tick(self, *, held=()):
        for stage in held:
            if stage not in STAGES:
                raise NoStage(stage)
        self.tick_count += 1
        done = self.leave_last(held)
        if self.may_go("second", "last", held):
            self.go("second", "last")
        self.leave_first(held)
        self.leave_read(held)
        self.come_in(held)
        return done

    def may_go(self, stage, behind, held):
        return stage not in held and self.places[stage] is not None and self.places[behind] is None

    def go(self, stage, behind):
        self.places[behind] = self.places[stage]
        self.places[stage] = None

    def leave_last(self, held):
        number = self.places["last"]
        if number is None or "last" in held:
            return []
        word, flags = self.outcome_in(number)
        self.unit.end(self.fed[number], word, flags)
        self.places["last"] = None
        return [number]

    def outcome_in(self, number):
        return outcome_by(self.form, self.fed[number], self.read_words[number])

    def leave_first(self, held):
        number = self.places["first"]
        if number is None or "first" in held:
            return
        self.spent += 1
        if self.spent >= ticks_due(self.form, self.fed[number]) and self.places["second"] is None:
            self.go("first", "second")

    def leave_read(self, held):
        if not self.may_go("read", "first", held):
            return
        number = self.places["read"]
        words = [self.word_ready(cell) for cell in cells_read(self.fed[number])]
        if None in words:
            return
        self.read_words[number] = words
        self.go("read", "first")
        self.spent = 0

    def word_ready(self, cell):
        """What is read in that cell, None as long as it isn't ready."""
        ahead = [self.places[stage] for stage in STAGES[1:] if self.places[stage] is not None]
        due = [number for number in ahead if cell_of(self.fed[number]) == cell]
        if due == []:
            return self.unit.cells()[cell]
        if self.quick and max(due) == self.places["last"]:
            return self.outcome_in(max(due))[0]
        return None

    def come_in(self, held):
        if self.places["read"] is None and "read" not in held and self.entered < len(self.fed):
            self.places["read"] = self.entered
            self.entered += 1

    def ticks(self):
        return self.tick_count

    def waiting(self):
        return list(range(self.entered, len(self.fed)))

    def inside(self):
        return [self.places[stage] for stage in STAGES]

    def need(self, number):
        # Below 0, too: Python would count such a number from the end.
        if not 0 <= number < len(self.fed):
            raise NoDeed(number)

    def words_of(self, number):
        self.need(number)
        words = self.read_words[number]
        return None if words is None else list(words)

    def steps_of(self, number):
        self.need(number)
        if number not in (self.places["second"], self.places["last"]):
            return None
        steps = steps_by(self.form, self.fed[number], self.read_words[number])
        return steps if number == self.places["last"] else steps[:-1]

    def cells(self):
        return self.unit.cells()

    def raised(self):
        return self.unit.raised()

    def many(self):
        return self.unit.many()

    def finished(self):
        unit = PlainUnit(self.form)
        for deed in self.fed:
            unit.do(deed)
        return unit

    def empty(self, *, most=900):
        # A twin goes ahead: so nothing is done where it would be too much.
        twin = self.like()
        needed = 0
        while twin.is_busy():
            if needed == most:
                raise Stuck(most)
            twin.tick()
            needed += 1
        for left in range(needed):
            self.tick()
        return needed

    def is_busy(self):
        return self.unit.many() < len(self.fed)

    def like(self):
        twin = Line(self.form, quick=self.quick)
        twin.unit = self.unit.like()
        twin.fed = list(self.fed)
        twin.read_words = list(self.read_words)
        twin.entered = self.entered
        twin.places = dict(self.places)
        twin.spent = self.spent
        twin.tick_count = self.tick_count
        return twin


def ticks_due(form, deed):
    """How many ticks a deed has to be in first."""
    if deed[0] in ("times", "join"):
        return 2
    return form.tail + 4 if deed[0] == "over" else 1


def steps_by(form, deed, words):
    op = deed[0]
    way = deed[-1]
    if op == "add":
        return add_steps(form, *words, way=way)
    if op == "take":
        return take_steps(form, *words, way=way)
    if op == "times":
        return times_steps(form, *words, way=way)
    if op == "join":
        return join_steps(form, *words, way=way)
    return []
