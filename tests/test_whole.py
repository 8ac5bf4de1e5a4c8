"""What is promised over the whole program: each refusal as it is met, and what stands behind it."""

import unittest

from guessedzeros import errors
from guessedzeros.cubes import split
from guessedzeros.desk import Desk
from guessedzeros.dividing import Divider
from guessedzeros.forms import Form
from guessedzeros.line import Line
from guessedzeros.nets import Net
from guessedzeros.plainunit import PlainUnit
from guessedzeros.rounding import rounded
from guessedzeros.rows import row_in
from guessedzeros.sameness import same, shows_same, shows_unlike
from guessedzeros.spelling import word_in
from tests.bench import state_of
from tests.things import is_alike

FORM = Form(4, 3)


class TestRefusals(unittest.TestCase):
    def setUp(self):
        self.net, self.other = Net(2), Net(2)
        for net in (self.net, self.other):
            net.give("x", [net.both(0, 1)])
        self.wide = Net(3)
        self.divider = Divider(FORM, 56, 68)
        self.done = Divider(FORM, 56, 0)
        self.unit, self.line, self.desk = PlainUnit(FORM), Line(FORM), Desk(FORM)
        self.unit.do(("put", 0, 56))
        self.line.feed(("put", 0, 56))
        self.line.tick()
        self.desk.ask("put 0 00111000")

    def state(self):
        line, unit, divider = self.line, self.unit, self.divider
        return ([state_of(net) for net in (self.net, self.other, self.wide)],
                (divider.digits(), divider.rest(), divider.left()), (self.done.digits(), self.done.outcome()),
                (unit.cells(), unit.raised(), unit.many()),
                (line.ticks(), line.inside(), line.waiting(), line.cells(), line.many(), line.words_of(0)),
                [self.desk.ask(row) for row in ("ticks", "inside", "whole 0", "whole 1")], self.desk.is_open(),
                (FORM.scale, FORM.tail))

    def asks(self):
        """(name of the refusal, what, how it's met); each class at least once."""
        net, other, wide, line, desk = self.net, self.other, self.wide, self.line, self.desk
        return [
            ("BadForm", "scale", lambda: Form(9, 99)), ("BadForm", "tail", lambda: Form(2, True)),
            ("BadText", "0 1", lambda: word_in(FORM, "0 1")),
            ("BadRow", "cell 8", lambda: row_in(FORM, "cell 8")), ("BadRow", "", lambda: desk.ask("")),
            ("BadRow", "again 1", lambda: desk.ask("again 1")),
            ("BadRow", "again 1", lambda: desk.run(["again 1"], keep=True)),
            ("Unfit", "inputs", lambda: same(net, wide)), ("Unfit", "inputs", lambda: shows_same(wide, net, [])),
            ("Unfit", "names", lambda: shows_unlike(net, Net(2), "00")),
            ("TooFew", 0, lambda: rounded(FORM, 0, 15, 0, more=True)),
            ("NoStep", 0, lambda: self.done.step()), ("Undone", 6, lambda: self.divider.outcome()),
            ("Busy", 1, lambda: desk.run(["put 1 00111000", "again 1"], keep=True, deep=1)),
            ("NoWire", 3, lambda: net.both(0, 3)), ("NoWire", -1, lambda: net.give("y", [-1])),
            ("NoPlace", 1, lambda: split("-0", 1)), ("NoDeed", 1, lambda: line.words_of(1)),
            ("NoDeed", -1, lambda: line.steps_of(-1)), ("NoName", "y", lambda: net.given("y")),
            ("NoStage", "x", lambda: line.tick(held=["last", "x", "y"])), ("Taken", "x", lambda: net.give("x", [9])),
            ("BadDeed", ("put", 0), lambda: self.unit.do(("put", 0))), ("BadDeed", [], lambda: line.feed([])),
            ("TooMuch", 2, lambda: same(net, other, most=2)), ("Stuck", 3, lambda: line.empty(most=3)),
            ("Stuck", 4, lambda: desk.ask("empty 4")),
            ("Stuck", 4, lambda: desk.run(["put 1 00111000", "empty 4"], keep=True)),
        ]

    def test_each_as_it_is_met(self):
        before = self.state()
        met = set()
        for name, what, ask in self.asks():
            kind = getattr(errors, name)
            with self.subTest(name, what=what):
                with self.assertRaises(kind) as refused:
                    ask()
                self.assertIs(type(refused.exception), kind)
                self.assertTrue(is_alike(vars(refused.exception)["what"], what))
                self.assertEqual(list(vars(refused.exception)), ["what"])
                self.assertTrue(is_alike(self.state(), before))
            met.add(name)
        self.assertEqual(met, {name for name, kind in vars(errors).items() if isinstance(kind, type)})

    def test_the_same_question_again(self):
        for name, what, ask in self.asks():
            for _ in range(2):
                with self.assertRaises(getattr(errors, name)) as refused:
                    ask()
                self.assertTrue(is_alike(refused.exception.what, what))


class TestAgreement(unittest.TestCase):
    def test_line_desk_and_unit(self):
        deeds = [("put", 0, 59), ("put", 1, 70), ("over", 2, 0, 1, "near"), ("join", 3, 0, 1, 2, "up"),
                 ("take", 3, 3, 3, "down"), ("times", 4, 2, 2, "cut"), ("add", 2, 4, 0, "near")]
        unit, line, desk = PlainUnit(FORM), Line(FORM), Desk(FORM, quick=False)
        for deed in deeds:
            unit.do(deed)
            line.feed(deed)
            words = [f"{deed[2]:08b}"] if deed[0] == "put" else deed[2:]
            desk.ask(" ".join(map(str, (*deed[:2], *words))))
        self.assertEqual(line.finished(), unit)
        line.empty()
        desk.ask("empty 900")
        self.assertEqual(line.finished(), unit)
        self.assertEqual((line.cells(), line.raised(), line.many()), (unit.cells(), unit.raised(), unit.many()))
        for cell, word in enumerate(unit.cells()):
            self.assertEqual(desk.ask(f"cell {cell}").replace(" ", ""), f"{word:08b}")
            self.assertEqual(desk.ask(f"whole {cell}"), desk.ask(f"cell {cell}"))


if __name__ == "__main__":
    unittest.main()
