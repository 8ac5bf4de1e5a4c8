import random
import unittest
from unittest import mock

from guessedzeros import desk as desk_file
from guessedzeros.desk import Desk
from guessedzeros.errors import BadRow, Busy, Stuck
from guessedzeros.forms import Form
from guessedzeros.line import Line
from guessedzeros.rows import row_in
from guessedzeros.spelling import spelled
from tests.things import is_alike

FORM = Form(4, 3)
# Each tells something of the line, and changes nothing.
LOOKS = ["flags", "inside", "ticks"] + [f"{name} {cell}" for name in ("cell", "whole") for cell in range(8)]
BAD_ROWS = ["", " ", "put", "put 8 01010011", "add 0 0 0", "tick 0", "tick 901", "tick 1 none", "empty", "cell 9",
            "flags ", " flags", "ticks  ", "again", "again 0", "again 01", "Flags", "inside 1"]


def state_of(desk):
    return [desk.ask(row) for row in LOOKS]


def drawn_row(drawn, form=FORM):
    kind = drawn.randrange(10)
    cells = [str(drawn.randrange(4)) for _ in range(4)]
    way = drawn.choice(("near", "cut", "up", "down"))
    if kind < 2:
        return f"put {cells[0]} {drawn.randrange(2 ** form.width()):0{form.width()}b}"
    if kind == 2:
        return " ".join(["join", *cells, way])
    if kind < 5:
        return " ".join([drawn.choice(("add", "take", "times", "over")), *cells[:3], way])
    if kind < 7:
        stages = drawn.sample(["read", "first", "second", "last"], drawn.choice((0, 0, 1, 2)))
        return " ".join(["tick", str(drawn.randrange(1, 7)), *stages])
    return drawn.choice(LOOKS + ["empty 900"])


class Model:
    """What is due of a desk: rows done by a line, run by run, and what the log has."""

    def __init__(self, form=FORM, quick=True):
        self.form, self.line, self.log = form, Line(form, quick=quick), []

    def answer(self, row):
        name, *told = row_in(self.form, row)
        line = self.line
        if name in ("put", "add", "take", "times", "over", "join"):
            return str(line.feed((name, *told)))
        if name == "tick":
            done = [str(number) for _ in range(told[0]) for number in line.tick(held=told[1])]
            return " ".join(done) or "-"
        if name == "empty":
            return str(line.empty(most=told[0]))
        if name in ("cell", "whole"):
            cells = line.cells() if name == "cell" else line.finished().cells()
            return spelled(self.form, cells[told[0]])
        if name == "flags":
            return " ".join(line.raised()) or "-"
        if name == "inside":
            return " ".join("-" if number is None else str(number) for number in line.inside())
        return str(line.ticks())

    def run(self, rows, deep, under_way=1):
        """The texts, or the refusal as a pair (class, what)."""
        self.log.append(("begin", len(rows)))
        texts = []
        for at, row in enumerate(rows):
            found = self.step(rows, at, deep, under_way)
            if isinstance(found, tuple):
                self.log.append(("end", at))
                return found
            texts.append(found)
        self.log.append(("end", len(rows)))
        return texts

    def step(self, rows, at, deep, under_way):
        try:
            told = row_in(self.form, rows[at])
        except BadRow:
            return BadRow, rows[at]
        if told[0] == "again":
            if told[1] > at:
                return BadRow, rows[at]
            if under_way >= deep:
                return Busy, deep
            found = self.run(rows[at - told[1]:at], deep, under_way + 1)
            return found if isinstance(found, tuple) else str(told[1])
        try:
            return self.answer(rows[at])
        except Stuck as stuck:
            return Stuck, stuck.what


class TestAsk(unittest.TestCase):
    def test_by_hand(self):
        desk = Desk(FORM)
        self.assertEqual(state_of(desk), ["-", "- - - -", "0"] + ["0 0000 000"] * 16)
        told = [(row, desk.ask(row)) for row in (
            "put 0 00111000", "put 1 01000100", "over 2 0 1 near", "inside", "tick 2", "inside", "tick 3 last",
            "inside", "tick 1", "flags", "cell 0", "cell 2", "whole 2", "ticks", "empty 900", "cell 2", "flags",
            "ticks", "tick 4", "ticks", "add 3 0 0 up", "empty 5", "cell 3", "inside")]
        self.assertEqual(told, [
            ("put 0 00111000", "0"), ("put 1 01000100", "1"), ("over 2 0 1 near", "2"), ("inside", "- - - -"),
            ("tick 2", "-"), ("inside", "1 0 - -"), ("tick 3 last", "-"), ("inside", "2 - 1 0"), ("tick 1", "0"),
            ("flags", "-"), ("cell 0", "0 0111 000"), ("cell 2", "0 0000 000"), ("whole 2", "0 0101 011"),
            ("ticks", "6"), ("empty 900", "9"), ("cell 2", "0 0101 011"), ("flags", "rounded"),
            ("ticks", "15"), ("tick 4", "-"), ("ticks", "19"), ("add 3 0 0 up", "3"), ("empty 5", "5"),
            ("cell 3", "0 1000 000"), ("inside", "- - - -")])

    def test_numbers_of_several_deeds_done(self):
        desk = Desk(FORM)
        for cell in range(4):
            desk.ask(f"put {cell} 00111000")
        self.assertEqual(desk.ask("tick 6"), "0 1")
        self.assertEqual(desk.ask("tick 900"), "2 3")

    def test_several_flags(self):
        desk = Desk(FORM)
        for row in ("put 1 00111000", "put 2 01000100", "over 3 0 0 near", "over 4 1 0 near", "over 5 1 2 near"):
            desk.ask(row)
        desk.ask("empty 900")
        self.assertEqual(desk.ask("flags"), "bad bynought rounded")

    def test_drawn_quick_and_not(self):
        drawn = random.Random(251)
        for form in (FORM, Form(2, 1), Form(5, 10)):
            for quick in (True, False):
                desk, model = Desk(form, quick=quick), Model(form, quick)
                for _ in range(120):
                    row = drawn_row(drawn, form)
                    self.assertTrue(is_alike(desk.ask(row), model.answer(row)), row)
                self.assertTrue(is_alike(desk.log(), []))
                self.assertIs(desk.is_open(), True)

    def test_quick_may_be_left_out(self):
        rows = ["put 0 00111000", "add 1 0 0 near", "empty 900"]
        told = [desk.run(rows)[-1] for desk in (Desk(FORM), Desk(FORM, quick=True), Desk(FORM, quick=False))]
        self.assertEqual(told, ["7", "7", "8"])
        with self.assertRaises(TypeError):
            Desk(FORM, False)

    def test_refused_rows(self):
        desk = Desk(FORM)
        for row in ("put 0 00111000", "over 1 0 2 up", "tick 4"):
            desk.ask(row)
        kept = state_of(desk)
        for row in BAD_ROWS + ["again 1", "again 900"]:
            with self.assertRaises(BadRow) as refused:
                desk.ask(row)
            self.assertTrue(is_alike(refused.exception.what, row))
            self.assertEqual(state_of(desk), kept)
        with self.assertRaises(Stuck) as refused:
            desk.ask("empty 2")
        self.assertTrue(is_alike(refused.exception.what, 2))
        self.assertEqual(state_of(desk), kept)
        self.assertIs(desk.is_open(), True)
        self.assertEqual(desk.log(), [])

    def test_a_form_changed_later(self):
        form = Form(4, 3)
        desk = Desk(form)
        form.scale, form.tail = 2, 1
        self.assertEqual(desk.run(["put 0 00111000", "empty 9", "cell 0"]), ["0", "5", "0 0111 000"])


class TestRun(unittest.TestCase):
    def check(self, desk, model, rows, deep=None, keep=None):
        """Runs rows on both; tells whether it was refused."""
        before, line = state_of(desk), model.line.like()
        handed = list(rows)
        named = {name: told for name, told in (("deep", deep), ("keep", keep)) if told is not None}
        due = model.run(rows, deep or 2)
        if isinstance(due, tuple):
            with self.assertRaises(due[0]) as refused:
                desk.run(handed, **named)
            self.assertIs(type(refused.exception), due[0])
            self.assertTrue(is_alike(refused.exception.what, due[1]))
        else:
            self.assertTrue(is_alike(desk.run(handed, **named), due))
        self.assertEqual(handed, list(rows))
        if isinstance(due, tuple) or not keep:
            model.line = line
            self.assertEqual(state_of(desk), before)
        self.assertEqual(state_of(desk), [model.answer(row) for row in LOOKS])
        self.assertTrue(is_alike(desk.log(), model.log))
        self.assertIs(desk.is_open(), True)
        return isinstance(due, tuple)

    def test_deep_by_its_name(self):
        self.assertEqual(desk_file.DEEP, 2)
        self.assertIs(type(desk_file.DEEP), int)
        for handed in ((["ticks"], True), (["ticks"], False, 2)):
            with self.assertRaises(TypeError):
                Desk(FORM).run(*handed)

    def test_kept_and_taken_back(self):
        rows = ["put 0 00111000", "tick 3", "add 1 0 0 near", "empty 9", "cell 1"]
        # In the 4th tick the sum comes into read, in the 5th it leaves it, in the 8th it's done.
        due = ["0", "-", "1", "5", "0 1000 000"]
        desk = Desk(FORM)
        fresh = state_of(desk)
        self.assertTrue(is_alike(desk.run(rows), due))
        self.assertEqual(state_of(desk), fresh)
        self.assertTrue(is_alike(desk.run(rows, keep=False), due))
        self.assertEqual(state_of(desk), fresh)
        self.assertTrue(is_alike(desk.run(rows, keep=True), due))
        self.assertEqual(desk.ask("cell 1"), "0 1000 000")
        self.assertEqual(desk.ask("ticks"), "8")
        self.assertTrue(is_alike(desk.run(tuple(rows), keep=True), ["2", "-", "3", "5", "0 1000 000"]))
        self.assertEqual(desk.log(), [("begin", 5), ("end", 5)] * 4)

    def test_no_rows(self):
        desk = Desk(FORM)
        self.assertTrue(is_alike(desk.run([]), []))
        self.assertTrue(is_alike(desk.run((), keep=True, deep=1), []))
        self.assertTrue(is_alike(desk.log(), [("begin", 0), ("end", 0)] * 2))

    def test_again_by_hand(self):
        desk = Desk(FORM)
        rows = ["put 0 00111000", "add 0 0 0 near", "again 1", "again 1", "empty 900", "cell 0"]
        # The second again would do the first one once more: of which no row is ahead, in the run within.
        with self.assertRaises(BadRow) as refused:
            desk.run(rows)
        self.assertEqual(refused.exception.what, "again 1")
        self.assertEqual(desk.log(), [("begin", 6), ("begin", 1), ("end", 1), ("begin", 1), ("end", 0), ("end", 3)])
        desk = Desk(FORM)
        rows = ["put 0 00111000", "add 0 0 0 near", "again 1", "whole 0", "again 2"]
        with self.assertRaises(BadRow) as refused:
            desk.run(rows)
        self.assertEqual(refused.exception.what, "again 1")
        rows[4] = "again 3"
        with self.assertRaises(Busy) as refused:
            desk.run(rows)
        self.assertTrue(is_alike(refused.exception.what, 2))
        told = desk.run(rows + ["whole 0", "ticks"], deep=3, keep=True)
        # Doubled once, once more by again 1; then both once more.
        self.assertEqual(told, ["0", "1", "1", "0 1001 000", "3", "0 1011 000", "0"])
        self.assertEqual(desk.log()[-8:], [
            ("begin", 7), ("begin", 1), ("end", 1), ("begin", 3), ("begin", 1), ("end", 1), ("end", 3), ("end", 7)])

    def test_fewer_rows_ahead_then_busy(self):
        desk = Desk(FORM)
        for rows, deep, kind, what in (
                (["again 1"], 1, BadRow, "again 1"), (["ticks", "again 2"], 1, BadRow, "again 2"),
                (["ticks", "again 1"], 1, Busy, 1), (["ticks", "ticks", "again 900"], 4, BadRow, "again 900"),
                (["ticks", "again 1", "again 2"], 2, Busy, 2), (["ticks", "again 1", "again 2", "again 3"], 3, Busy, 3)):
            with self.assertRaises(kind) as refused:
                desk.run(rows, deep=deep, keep=True)
            self.assertIs(type(refused.exception), kind)
            self.assertTrue(is_alike(refused.exception.what, what))
        self.assertEqual(desk.run(["ticks", "again 1", "again 2", "again 3"], deep=4), ["0", "1", "2", "3"])
        self.assertEqual(desk.run(["ticks", "again 1", "again 2"], deep=3), ["0", "1", "2"])
        self.assertEqual(desk.run(["ticks", "again 1"], deep=2), ["0", "1"])
        self.assertIs(desk.is_open(), True)

    def test_each_row_is_read_as_it_is_come_to(self):
        desk = Desk(FORM)
        with self.assertRaises(Stuck) as refused:
            desk.run(["put 0 00111000", "empty 4", "no row"], keep=True)
        self.assertEqual(refused.exception.what, 4)
        self.assertEqual(desk.log(), [("begin", 3), ("end", 1)])
        self.assertEqual(desk.ask("whole 0"), "0 0000 000")

    def test_refused_at_each_place(self):
        good = ["put 0 00111000", "add 1 0 0 near", "tick 3", "times 2 1 1 up", "tick 2 last", "inside", "empty 900"]
        refused = BAD_ROWS + ["again 40", "empty 1"]
        for at in range(len(good) + 1):
            for bad in refused:
                desk, model = Desk(FORM), Model()
                for row in ("put 3 01000100", "over 4 3 0 up", "tick 5"):
                    desk.ask(row)
                    model.answer(row)
                for keep in (True, False):
                    told = self.check(desk, model, good[:at] + [bad] + good[at:], keep=keep)
                    # Behind "empty 900" nothing is left to be emptied.
                    self.assertEqual(told, not (bad == "empty 1" and at == len(good)))
                self.assertFalse(self.check(desk, model, good, keep=True))

    def test_refused_within_a_run_within(self):
        # Not refused the first time, but once more: the line is another one by then.
        desk, model = Desk(FORM), Model()
        rows = ["put 1 00111000", "empty 5", "over 0 1 1 near", "again 2"]
        self.assertTrue(self.check(desk, model, rows, keep=True))
        self.assertEqual(desk.log(), [("begin", 4), ("begin", 2), ("end", 0), ("end", 3)])
        # One deeper, and a bad row there.
        rows = ["ticks", "again 1", "ticks", "again 3"]
        self.assertTrue(self.check(desk, model, rows, deep=2, keep=True))
        self.assertFalse(self.check(desk, model, rows, deep=3, keep=True))
        rows = ["put 0 00111000", "tick 1", "again 2", "ticks", "again 2"]
        self.assertTrue(self.check(desk, model, rows, deep=4, keep=True))

    def test_drawn_runs(self):
        drawn = random.Random(252)
        counts = {True: 0, False: 0}
        for _ in range(40):
            desk, model = Desk(FORM), Model()
            for _ in range(6):
                rows = [drawn_row(drawn) for _ in range(drawn.randrange(1, 12))]
                for at in range(drawn.randrange(3)):
                    rows.insert(drawn.randrange(1, len(rows) + 1), f"again {drawn.randrange(1, 6)}")
                if drawn.random() < 0.3:
                    rows.insert(drawn.randrange(len(rows) + 1), drawn.choice(BAD_ROWS + ["empty 3"]))
                deep, keep = drawn.choice((None, 1, 2, 3, 4)), drawn.choice((None, True, False))
                counts[self.check(desk, model, rows, deep, keep)] += 1
        self.assertGreater(min(counts.values()), 50)

    def test_120_rows(self):
        drawn = random.Random(253)
        desk, model = Desk(FORM), Model()
        rows = []
        while len(rows) < 120:
            row = drawn_row(drawn)
            fed = len([row for row in rows if row[0] in "patoj" and not row.startswith("tick")])
            rows.append(row if fed < 50 or row in LOOKS else "tick 2")
        rows[60], rows[119] = "again 20", "again 30"
        self.assertFalse(self.check(desk, model, rows, keep=True))
        self.assertFalse(self.check(desk, model, rows[:60], keep=False))
        self.assertTrue(self.check(desk, model, rows + ["no row"], keep=True))

    def test_open_or_not_in_the_midst(self):
        desk = Desk(FORM)
        seen = []

        def row_seen(form, text):
            seen.append((text, desk.is_open()))
            return row_in(form, text)

        with mock.patch.object(desk_file, "row_in", row_seen):
            desk.ask("ticks")
            desk.run(["flags", "again 1", "inside"])
            desk.ask("ticks")
            self.assertRaises(Busy, desk.run, ["flags", "again 1", "again 2"])
            desk.ask("ticks")
        self.assertTrue(is_alike(seen, [
            ("ticks", True), ("flags", False), ("again 1", False), ("flags", False), ("inside", False), ("ticks", True),
            ("flags", False), ("again 1", False), ("flags", False), ("again 2", False), ("flags", False),
            ("again 1", False), ("ticks", True)]))

    def test_told_lists_are_ones_own(self):
        desk = Desk(FORM)
        rows = ["put 0 00111000", "again 1", "ticks"]
        desk.run(rows, keep=True).clear()
        rows[1] = "bad"
        kept = [("begin", 3), ("begin", 1), ("end", 1), ("end", 3)]
        self.assertTrue(is_alike(desk.log(), kept))
        desk.log().clear()
        desk.log().append(1)
        self.assertTrue(is_alike(desk.log(), kept))
        self.assertEqual(desk.ask("put 1 00111000"), "2")

    def test_two_to_which_the_same_is_done(self):
        drawn = random.Random(254)
        one, other = Desk(FORM), Desk(FORM)
        for _ in range(10):
            rows = [drawn_row(drawn) for _ in range(6)]
            keep = drawn.random() < 0.5
            self.assertEqual(one.run(rows, keep=keep), other.run(rows, keep=keep))
            self.assertEqual(state_of(one), state_of(other))
            self.assertEqual(one.log(), other.log())


if __name__ == "__main__":
    unittest.main()
