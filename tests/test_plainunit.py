import random
import unittest

from guessedzeros.errors import BadDeed
from guessedzeros.forms import Form
from guessedzeros.plainunit import PlainUnit
from tests.deedsdrawn import Told, drawn_deed
from tests.things import OTHER_KINDS, is_alike

FORMS = [Form(2, 1), Form(3, 2), Form(4, 3), Form(5, 10), Form(8, 24)]


def state_of(unit):
    return unit.cells(), unit.raised(), unit.many()


class TestDo(unittest.TestCase):
    def test_at_first(self):
        for form in FORMS:
            self.assertTrue(is_alike(state_of(PlainUnit(form)), ([0] * 8, (), 0)))

    def test_by_hand(self):
        unit = PlainUnit(Form(4, 3))
        # 1, 3, their quotient, sum and so on: words 56 and 68.
        self.assertTrue(is_alike(unit.do(("put", 0, 56)), (56, ())))
        self.assertTrue(is_alike(unit.do(("put", 1, 68)), (68, ())))
        self.assertTrue(is_alike(unit.do(("over", 2, 0, 1, "near")), (43, ("rounded",))))
        self.assertTrue(is_alike(unit.do(("over", 2, 0, 1, "cut")), (42, ("rounded",))))
        self.assertTrue(is_alike(unit.do(("over", 3, 0, 7, "up")), (120, ("bynought",))))
        self.assertTrue(is_alike(unit.raised(), ("bynought", "rounded")))
        self.assertTrue(is_alike(unit.do(("take", 0, 0, 0, "down")), (128, ())))
        self.assertTrue(is_alike(unit.do(("join", 4, 3, 5, 6, "near")), (124, ("bad",))))
        self.assertTrue(is_alike(unit.raised(), ("bad", "bynought", "rounded")))
        self.assertTrue(is_alike(unit.cells(), [128, 68, 42, 120, 124, 0, 0, 0]))
        self.assertTrue(is_alike(unit.many(), 7))

    def test_drawn(self):
        drawn = random.Random(221)
        raised = set()
        for form in FORMS * 3:
            deeds = [drawn_deed(drawn, form, drawn.choice((2, 4, 8))) for _ in range(60)]
            due = Told(form, deeds)
            unit = PlainUnit(form)
            for at, deed in enumerate(deeds):
                self.assertTrue(is_alike(unit.do(deed), due.outcomes[at]))
                self.assertTrue(is_alike(state_of(unit), (due.cells[at + 1], due.flags[at + 1], at + 1)))
            raised.update(unit.raised())
        self.assertEqual(raised, {"bad", "bynought", "over", "under", "rounded"})

    def test_the_cell_may_be_one_that_is_read(self):
        unit = PlainUnit(Form(4, 3))
        unit.do(("put", 0, 56))
        for due in (64, 72, 80):
            self.assertEqual(unit.do(("add", 0, 0, 0, "near")), (due, ()))
        self.assertEqual(unit.cells(), [80] + [0] * 7)

    def test_no_deed(self):
        form = Form(3, 2)
        unit = PlainUnit(form)
        unit.do(("put", 1, 20))
        unit.do(("over", 2, 1, 0, "near"))
        kept = state_of(unit)
        for thing in OTHER_KINDS + [
                0, -1, ("put", 8, 0), ("put", 0, 64), ["put", 0, 0], ("put", 0), ("put", 0, True),
                ("add", 0, 0, 0, "no"), ("add", 0, -1, 0, "near"), ("join", 0, 0, 0, "near"),
                ("over", 0, 0, 0, 0, "near"), ("put", 0, 0, "near")]:
            with self.assertRaises(BadDeed) as refused:
                unit.do(thing)
            self.assertTrue(is_alike(refused.exception.what, thing))
            self.assertEqual(state_of(unit), kept)


class TestOwn(unittest.TestCase):
    def test_told_lists(self):
        unit = PlainUnit(Form(3, 2))
        unit.do(("put", 0, 9))
        unit.cells()[0] = 5
        unit.cells().clear()
        self.assertEqual(unit.cells(), [9] + [0] * 7)

    def test_a_form_changed_later(self):
        form = Form(3, 2)
        unit = PlainUnit(form)
        unit.do(("put", 0, 12))
        form.scale, form.tail = 4, 3
        self.assertEqual(unit.do(("add", 1, 0, 0, "near")), (16, ()))
        self.assertEqual(unit, unit.like())
        self.assertRaises(BadDeed, unit.do, ("put", 0, 64))

    def test_like(self):
        drawn = random.Random(222)
        form = Form(4, 3)
        unit = PlainUnit(form)
        for _ in range(20):
            unit.do(drawn_deed(drawn, form))
        kept = state_of(unit)
        twin = unit.like()
        self.assertIs(type(twin), PlainUnit)
        self.assertTrue(is_alike(state_of(twin), kept))
        twin.do(("put", 0, 77))
        twin.do(("over", 1, 0, 0, "near"))
        self.assertTrue(is_alike(state_of(unit), kept))
        kept = state_of(twin)
        for _ in range(5):
            unit.do(drawn_deed(drawn, form))
        self.assertTrue(is_alike(state_of(twin), kept))

    def test_two_to_which_the_same_is_done(self):
        drawn = random.Random(223)
        form = Form(3, 2)
        one, other = PlainUnit(form), PlainUnit(form)
        for _ in range(30):
            deed = drawn_deed(drawn, form)
            self.assertEqual(one.do(deed), other.do(deed))
            self.assertTrue(one == other)


class TestEquality(unittest.TestCase):
    def check(self, one, other, due):
        self.assertIs(one == other, due)
        self.assertIs(other == one, due)
        self.assertIs(one != other, not due)

    def done(self, *deeds, form=Form(3, 2)):
        unit = PlainUnit(form)
        for deed in deeds:
            unit.do(deed)
        return unit

    def test_of_the_same(self):
        self.check(self.done(), self.done(), True)
        self.check(self.done(), self.done(form=Form(3, 2)), True)
        self.check(self.done(("put", 0, 3), ("put", 1, 4)), self.done(("put", 1, 4), ("put", 0, 3)), True)
        self.check(self.done(("put", 0, 3)), self.done(("put", 0, 3)).like(), True)

    def test_each_part_by_itself(self):
        self.check(self.done(), self.done(form=Form(2, 3)), False)
        self.check(self.done(), self.done(form=Form(3, 3)), False)
        self.check(self.done(("put", 0, 3)), self.done(("put", 0, 4)), False)
        self.check(self.done(("put", 0, 3)), self.done(("put", 1, 3)), False)
        self.check(self.done(), self.done(("put", 0, 0)), False)
        # The same cells and as many deeds, but a flag was raised.
        none, bad = self.done(("put", 0, 30)), self.done(("over", 0, 0, 0, "near"))
        self.assertEqual((none.cells(), none.many()), (bad.cells(), bad.many()))
        self.check(none, bad, False)

    def test_any_other_thing(self):
        unit = self.done()
        for thing in OTHER_KINDS + [0, 1, Form(3, 2), [0] * 8, ([0] * 8, (), 0), {}, object()]:
            self.check(unit, thing, False)


if __name__ == "__main__":
    unittest.main()
