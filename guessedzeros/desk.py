"""A desk: a line that is told rows of text, one by one or in runs that leave nothing behind if refused."""

from guessedzeros.errors import BadRow, Busy
from guessedzeros.forms import Form
from guessedzeros.line import Line
from guessedzeros.rows import row_in
from guessedzeros.spelling import spelled

DEEP = 2


class Desk:
    """One line, how many runs are under way, and both ends of each run so far."""

    def __init__(self, form, *, quick=True):
        self.form = Form(form.scale, form.tail)
        self.line = Line(form, quick=quick)
        self.under_way = 0
        self.ends = []

    def ask(self, row):
        told = row_in(self.form, row)
        if told[0] == "again":
            raise BadRow(row)
        return answer_to(self.line, told)

    def run(self, rows, *, keep=False, deep=DEEP):
        behind = self.line.like()
        try:
            texts = self.run_rows(rows, deep)
            if keep:
                behind = self.line
            return texts
        finally:
            self.line = behind

    def run_rows(self, rows, deep):
        texts = []
        many = 0
        self.under_way += 1
        self.ends.append(("begin", len(rows)))
        try:
            for place, row in enumerate(rows):
                texts.append(self.text_of(row, rows[:place], deep))
                many += 1
            return texts
        finally:
            self.under_way -= 1
            self.ends.append(("end", many))

    def text_of(self, row, ahead, deep):
        """What a row of a run tells, which has these rows ahead of it there."""
        told = row_in(self.form, row)
        if told[0] != "again":
            return answer_to(self.line, told)
        many = told[1]
        if many > len(ahead):
            raise BadRow(row)
        if self.under_way >= deep:
            raise Busy(deep)
        self.run_rows(ahead[-many:], deep)
        return str(many)

    def is_open(self):
        return self.under_way == 0

    def log(self):
        return list(self.ends)


def answer_to(line, told):
    reckon = ANSWERS[told[0]]
    return reckon(line, told)


def feed_text(line, told):
    return str(line.feed(told))


def tick_text(line, told):
    done = []
    for left in range(told[1]):
        done.extend(line.tick(held=told[2]))
    return words_or_none(done)


def words_or_none(words):
    return " ".join([str(word) for word in words]) if len(words) > 0 else "-"


def empty_text(line, told):
    return str(line.empty(most=told[1]))


def cell_text(line, told):
    return spelled(line.form, line.cells()[told[1]])


def whole_text(line, told):
    return spelled(line.form, line.finished().cells()[told[1]])


def flags_text(line, told):
    return words_or_none(line.raised())


def inside_text(line, told):
    return " ".join(["-" if number is None else str(number) for number in line.inside()])


def ticks_text(line, told):
    return str(line.ticks())


ANSWERS = {
    "put": feed_text,
    "add": feed_text,
    "take": feed_text,
    "times": feed_text,
    "over": feed_text,
    "join": feed_text,
    "tick": tick_text,
    "empty": empty_text,
    "cell": cell_text,
    "whole": whole_text,
    "flags": flags_text,
    "inside": inside_text,
    "ticks": ticks_text,
}
