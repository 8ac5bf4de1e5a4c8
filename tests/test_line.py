import itertools
import random
import unittest

from guessedzeros.adding import add_steps, take_steps
from guessedzeros.errors import BadDeed, NoDeed, NoStage, Stuck
from guessedzeros.forms import Form
from guessedzeros.joining import join_steps
from guessedzeros.line import Line
from guessedzeros.multiplying import times_steps
from guessedzeros.plainunit import PlainUnit
from tests.deedsdrawn import Told, drawn_deed
from tests.slowline import STAGES, SlowLine
from tests.things import OTHER_KINDS, is_alike

FORM = Form(4, 3)
FORMS = [Form(2, 1), Form(3, 2), Form(4, 3), Form(5, 10)]
STEPS = {"add": add_steps, "take": take_steps, "times": times_steps, "join": join_steps}
PUT, ADD, TIMES, OVER = ("put", 0, 56), ("add", 1, 0, 0, "near"), ("times", 2, 0, 0, "near"), ("over", 3, 0, 0, "near")
JOIN, TAKE = ("join", 4, 0, 0, 0, "near"), ("take", 5, 0, 0, "near")


def line_of(*deeds, form=FORM, quick=True):
    line = Line(form, quick=quick)
    for deed in deeds:
        line.feed(deed)
    return line


def ticked(line, many, held=()):
    return [line.tick(held=held) for _ in range(many)]


def state_of(line):
    """All that a line tells of itself."""
    fed = line.many() + len(line.waiting()) + len([number for number in line.inside() if number is not None])
    return (line.ticks(), line.waiting(), line.inside(), line.cells(), line.raised(), line.many(),
            [line.words_of(number) for number in range(fed)], [line.steps_of(number) for number in range(fed)],
            line.finished().cells(), line.finished().many())


def drawn_held(drawn, share):
    return [stage for stage in STAGES if drawn.random() < share]


class Checked(unittest.TestCase):
    def check(self, line, slow, due):
        """Whether all that the line tells is what the slow one has, and what deeds come to in order."""
        fed = len(slow.deeds)
        many = slow.many()
        self.assertTrue(is_alike(line.ticks(), slow.ticks))
        self.assertTrue(is_alike(line.inside(), slow.inside()))
        self.assertTrue(is_alike(line.waiting(), slow.waiting()))
        self.assertTrue(is_alike(line.many(), many))
        self.assertTrue(is_alike(line.cells(), slow.cells))
        self.assertTrue(is_alike(line.cells(), due.cells[many]))
        self.assertTrue(is_alike(line.raised(), due.flags[many]))
        for number, deed in enumerate(slow.deeds):
            words = line.words_of(number)
            self.assertTrue(is_alike(words, deed.words))
            if words is not None:
                self.assertEqual(words, due.words[number])
            self.assertTrue(is_alike(line.steps_of(number), self.steps_due(line, deed)))
        finished = line.finished()
        self.assertIs(type(finished), PlainUnit)
        self.assertTrue(is_alike(
            (finished.cells(), finished.raised(), finished.many()), (due.cells[fed], due.flags[fed], fed)))

    def steps_due(self, line, slow_deed):
        if slow_deed.stage not in ("second", "last"):
            return None
        op, *rest, way = slow_deed.deed
        steps = STEPS[op](line.form, *slow_deed.words, way=way) if op in STEPS else []
        return steps[:-1] if slow_deed.stage == "second" else steps


class TestTicks(Checked):
    def go_through(self, drawn, form, quick, share, many, cells):
        """A drawn line: deeds are fed and ticks come in any order, with some stages held."""
        deeds = [drawn_deed(drawn, form, cells) for _ in range(many)]
        due = [Told(form, deeds[:at]) for at in range(many + 1)]
        line, slow = Line(form, quick=quick), SlowLine(form, quick)
        ticks = 0
        while slow.many() < many and ticks < 900:
            fed = len(slow.deeds)
            if fed < many and drawn.random() < 0.5:
                self.assertTrue(is_alike(line.feed(deeds[fed]), fed))
                slow.feed(deeds[fed])
            else:
                held = drawn_held(drawn, share)
                held += held[:drawn.randrange(2)]
                drawn.shuffle(held)
                handed = drawn.choice((list, tuple))(held)
                self.assertTrue(is_alike(line.tick(held=handed), slow.tick(held)))
                self.assertEqual(list(handed), held)
                ticks += 1
            self.check(line, slow, due[len(slow.deeds)])
        return slow

    def test_drawn_quick_and_not(self):
        drawn = random.Random(231)
        for form in FORMS:
            for quick in (True, False):
                for share in (0, 0.2, 0.6):
                    for cells in (2, 8):
                        self.go_through(drawn, form, quick, share, 12, cells)

    def test_sixty_deeds(self):
        drawn = random.Random(232)
        for quick in (True, False):
            self.assertEqual(self.go_through(drawn, Form(3, 2), quick, 0.1, 60, 4).many(), 60)

    def test_each_choice_of_held_stages(self):
        # Every set of stages held for some ticks, at each point of the way of a few deeds.
        deeds = [PUT, ADD, ("add", 1, 1, 1, "near"), TIMES, ("join", 0, 1, 2, 1, "up")]
        due = Told(FORM, deeds)
        choices = [held for size in range(5) for held in itertools.combinations(STAGES, size)]
        for held, begin, quick in itertools.product(choices, range(0, 13, 2), (True, False)):
            line, slow = line_of(*deeds, quick=quick), SlowLine(FORM, quick)
            for deed in deeds:
                slow.feed(deed)
            for at in range(22):
                now = held if begin <= at < begin + 4 else ()
                self.assertEqual(line.tick(held=now), slow.tick(now))
                self.check(line, slow, due)

    def test_by_hand_one_deed(self):
        line = line_of(PUT)
        told = []
        for _ in range(6):
            told.append((line.inside(), line.waiting(), line.words_of(0), line.tick()))
        self.assertTrue(is_alike(told, [
            ([None, None, None, None], [0], None, []),
            ([0, None, None, None], [], None, []),
            ([None, 0, None, None], [], [], []),
            ([None, None, 0, None], [], [], []),
            ([None, None, None, 0], [], [], [0]),
            ([None, None, None, None], [], [], []),
        ]))
        self.assertEqual((line.cells(), line.many(), line.ticks()), ([56] + [0] * 7, 1, 6))

    def test_by_hand_what_the_one_ahead_tells(self):
        # Quick: read while it's in last. Not: a tick later, when it's in the cell.
        for quick, due in ((True, 3), (False, 4)):
            line = line_of(PUT, ADD, quick=quick)
            ticked(line, due)
            self.assertIsNone(line.words_of(1))
            self.assertEqual(line.inside()[0], 1)
            line.tick()
            self.assertEqual(line.words_of(1), [56, 56])
            self.assertEqual(line.inside()[:2], [None, 1])

    def test_the_one_fed_last_is_read(self):
        # Two deeds with the same cell, one in second and one in last: it's the one in second that counts.
        line = line_of(("put", 0, 56), ("put", 0, 68), ("add", 1, 0, 0, "near"))
        ticked(line, 4)
        self.assertEqual(line.inside(), [2, None, 1, 0])
        self.assertIsNone(line.words_of(2))
        ticked(line, 1)
        self.assertEqual(line.inside(), [None, 2, None, 1])
        self.assertEqual(line.words_of(2), [68, 68])
        self.assertEqual(line.cells()[0], 56)

    def test_quick_may_be_left_out(self):
        told = [[], []]
        for at, line in enumerate((line_of(PUT, ADD), Line(FORM))):
            if at:
                line.feed(PUT)
                line.feed(ADD)
            for _ in range(10):
                line.tick()
                told[at].append(line.inside())
        self.assertEqual(*told)
        with self.assertRaises(TypeError):
            Line(FORM, False)

    def test_nothing_to_do(self):
        line = Line(FORM)
        self.assertTrue(is_alike(ticked(line, 3), [[], [], []]))
        self.assertTrue(is_alike(ticked(line, 2, STAGES), [[], []]))
        self.assertTrue(is_alike(state_of(line), (5, [], [None] * 4, [0] * 8, (), 0, [], [], [0] * 8, 0)))

    def test_all_held_nothing_moves(self):
        line = line_of(PUT, ADD, TIMES, OVER, JOIN)
        for many in range(12):
            kept = state_of(line)
            self.assertEqual(ticked(line, 2, STAGES), [[], []])
            self.assertEqual(state_of(line)[1:], kept[1:])
            self.assertEqual(line.ticks(), kept[0] + 2)
            line.tick()

    def test_into_a_held_stage_a_deed_may_come(self):
        for stage, ticks, inside in (("first", 1, [None, 0, None, None]), ("second", 2, [None, None, 0, None]),
                                     ("last", 3, [None, None, None, 0])):
            line = line_of(PUT)
            ticked(line, ticks)
            self.assertEqual(line.tick(held=[stage]), [])
            self.assertEqual(line.inside(), inside)
            ticked(line, 3, [stage])
            self.assertEqual(line.inside(), inside)

    def test_read_held_takes_none_in(self):
        line = line_of(PUT)
        ticked(line, 3, ["read"])
        self.assertEqual((line.inside(), line.waiting()), ([None] * 4, [0]))
        line.tick()
        self.assertEqual((line.inside(), line.waiting()), ([0, None, None, None], []))


class TestFirst(unittest.TestCase):
    """How many ticks each kind of deed is in first."""

    def in_first(self, deed, form=FORM, held=None):
        line = line_of(deed, form=form)
        ticked(line, 2)
        self.assertEqual(line.inside(), [None, 0, None, None])
        many = 0
        while line.inside()[1] == 0:
            line.tick(held=held(many) if held else ())
            many += 1
        return many

    def test_each_kind(self):
        for form in FORMS:
            due = {PUT: 1, ADD: 1, TAKE: 1, TIMES: 2, JOIN: 2, OVER: form.tail + 4}
            for deed, many in due.items():
                deed = ("put", 0, 5) if deed == PUT else deed
                self.assertEqual(self.in_first(deed, form), many, (form, deed))

    def test_first_held_meanwhile_is_not_counted(self):
        for deed, many in ((PUT, 1), (TIMES, 2), (JOIN, 2), (OVER, 7)):
            for times in range(many + 1):
                # Held for three ticks behind so many that are counted.
                found = self.in_first(deed, held=lambda at: ["first"] if times <= at < times + 3 else [])
                self.assertEqual(found, many + (3 if times < many else 0))
            self.assertEqual(self.in_first(deed, held=lambda at: ["first"] if at % 2 == 0 else []), 2 * many)

    def test_other_stages_held_are_counted(self):
        for deed, many in ((PUT, 1), (TIMES, 2), (OVER, 7)):
            for stage in ("read", "second", "last"):
                self.assertEqual(self.in_first(deed, held=lambda at: [stage]), many)

    def test_second_is_taken_meanwhile(self):
        # The one ahead is held in second: behind its ticks the deed in first goes in the first in which it's free.
        for deed, many in ((("add", 6, 7, 7, "up"), 1), (("times", 6, 7, 7, "up"), 2), (("over", 6, 7, 7, "up"), 7)):
            for more in range(10):
                line = line_of(PUT, deed)
                ticked(line, 3)
                self.assertEqual(line.inside(), [None, 1, 0, None])
                ticked(line, more, ["second"])
                self.assertEqual(line.inside(), [None, 1, 0, None])
                for _ in range(max(many - more, 1) - 1):
                    line.tick()
                    self.assertEqual(line.inside()[1], 1)
                # Held in that very tick, it goes in the next one.
                line.tick(held=["first"])
                self.assertEqual(line.inside()[1], 1)
                line.tick()
                self.assertEqual(line.inside()[1:3], [None, 1])

    def test_counted_anew_for_the_next_one(self):
        line = line_of(("times", 1, 0, 0, "near"), ("times", 2, 0, 0, "near"), ("over", 3, 0, 0, "near"))
        ticked(line, 4)
        self.assertEqual(line.inside(), [2, 1, 0, None])
        line.tick()
        self.assertEqual(line.inside(), [2, 1, None, 0])
        line.tick()
        self.assertEqual(line.inside(), [None, 2, 1, None])
        ticked(line, 6)
        self.assertEqual(line.inside()[1], 2)
        line.tick()
        self.assertEqual(line.inside()[1:3], [None, 2])


class TestSteps(unittest.TestCase):
    def test_each_kind_in_each_stage(self):
        put = ("put", 0, 59)
        for quick in (True, False):
            for deed in (("add", 1, 0, 0, "up"), ("take", 1, 0, 2, "down"), ("times", 1, 0, 0, "cut"),
                         ("join", 1, 0, 0, 0, "near"), ("over", 1, 0, 0, "near"), ("put", 1, 3)):
                line = line_of(put, ("put", 2, 66), deed, quick=quick)
                seen = []
                while line.many() < 3:
                    at = line.inside().index(2) if 2 in line.inside() else None
                    seen.append(at)
                    told = line.steps_of(2)
                    if at in (2, 3):
                        words = line.words_of(2)
                        steps = STEPS[deed[0]](FORM, *words, way=deed[-1]) if deed[0] in STEPS else []
                        self.assertTrue(is_alike(told, steps[:-1] if at == 2 else steps))
                    else:
                        self.assertIsNone(told)
                    line.tick()
                self.assertEqual(set(seen), {None, 0, 1, 2, 3})
                self.assertIsNone(line.steps_of(2))

    def test_told_steps(self):
        # Noughts: there is one step alone, which second doesn't tell yet.
        line = line_of(("add", 1, 0, 0, "near"))
        ticked(line, 3)
        self.assertTrue(is_alike(line.steps_of(0), []))
        line.tick()
        self.assertTrue(is_alike(line.steps_of(0), [("told", 0, ())]))

    def test_told_lists_are_ones_own(self):
        line = line_of(("put", 0, 59), ("put", 1, 59), ("put", 2, 59), ("times", 3, 0, 1, "near"))
        while line.inside()[3] != 3:
            line.tick()
        kept = state_of(line)
        line.steps_of(3)[0][1].clear()
        line.steps_of(3).clear()
        line.words_of(3).append(1)
        line.inside()[0] = 5
        line.waiting().append(9)
        line.cells()[0] = 1
        line.finished().do(("put", 0, 1))
        self.assertEqual(state_of(line), kept)
        self.assertEqual(line.words_of(3), [59, 59])


class TestRefused(unittest.TestCase):
    def setUp(self):
        self.line = line_of(PUT, ADD, TIMES, OVER)
        ticked(self.line, 5)
        self.kept = state_of(self.line)

    def refused(self, kind, what, ask):
        with self.assertRaises(kind) as told:
            ask()
        self.assertIs(type(told.exception), kind)
        self.assertTrue(is_alike(told.exception.what, what))
        self.assertEqual(state_of(self.line), self.kept)

    def test_no_deed_to_feed(self):
        for thing in OTHER_KINDS + [
                0, ("put", 8, 0), ("put", 0, 256), list(PUT), ("add", 0, 0, 0, "no"), ("join", 0, 0, 0, "near"),
                ("add", 0, 0, "near"), ("put", True, 0), ("tick", 1, ())]:
            self.refused(BadDeed, thing, lambda: self.line.feed(thing))

    def test_no_stage(self):
        for held, what in ((["none"], "none"), (["first", "Last", "x"], "Last"), (("", "read"), ""),
                           (["read", "first", "second", "last", "firstly"], "firstly"), (["second "], "second ")):
            self.refused(NoStage, what, lambda: self.line.tick(held=held))

    def test_no_number(self):
        for number in (-1, -4, -5, 4, 5, 60, 10 ** 30, -10 ** 30):
            self.refused(NoDeed, number, lambda: self.line.words_of(number))
            self.refused(NoDeed, number, lambda: self.line.steps_of(number))
        for number in range(4):
            self.line.words_of(number)
            self.line.steps_of(number)

    def test_no_number_where_none_was_fed(self):
        for number in (0, -1):
            self.assertRaises(NoDeed, Line(FORM).words_of, number)
            self.assertRaises(NoDeed, Line(FORM).steps_of, number)

    def test_held_by_its_name_alone(self):
        with self.assertRaises(TypeError):
            self.line.tick(["first"])
        with self.assertRaises(TypeError):
            self.line.empty(3)


class TestFinishedAndEmpty(Checked):
    def test_just_enough_ticks_and_one_too_few(self):
        drawn = random.Random(233)
        for at in range(60):
            form, quick = drawn.choice(FORMS), drawn.random() < 0.5
            deeds = [drawn_deed(drawn, form, drawn.choice((2, 8))) for _ in range(drawn.randrange(1, 9))]
            line, slow = line_of(*deeds, form=form, quick=quick), SlowLine(form, quick)
            for deed in deeds:
                slow.feed(deed)
            for _ in range(drawn.randrange(12)):
                held = drawn_held(drawn, 0.3)
                line.tick(held=held)
                slow.tick(held)
            needed = 0
            while slow.many() < len(deeds):
                slow.tick()
                needed += 1
            if needed == 0:
                continue
            kept = state_of(line)
            for most in {needed - 1, needed // 2, 0}:
                with self.assertRaises(Stuck) as refused:
                    line.empty(most=most)
                self.assertTrue(is_alike(refused.exception.what, most))
                self.assertEqual(state_of(line), kept)
            most = drawn.choice((needed, needed + 1, 900))
            self.assertTrue(is_alike(line.empty(most=most) if at % 2 else line.empty(), needed))
            self.check(line, slow, Told(form, deeds))
            self.assertEqual(line.inside(), [None] * 4)
            self.assertEqual(line.finished().cells(), line.cells())

    def test_nothing_to_empty(self):
        line = Line(FORM)
        self.assertTrue(is_alike(line.empty(), 0))
        self.assertTrue(is_alike(line.empty(most=1), 0))
        self.assertEqual(line.ticks(), 0)
        line.feed(PUT)
        self.assertEqual(line.empty(), 5)
        self.assertEqual(line.empty(), 0)
        self.assertEqual(line.ticks(), 5)

    def test_900_where_it_is_left_out(self):
        # Each reads what the one ahead tells, and is 24 + 4 ticks in first: 29 for each, and 3.
        form = Form(8, 24)
        deeds = [("over", 1, 1, 1, "near")] * 32
        line = line_of(*deeds, form=form)
        needed = line.like().empty(most=2000)
        self.assertEqual(needed, 32 * 29 + 3)
        while needed > 900:
            line.tick()
            needed -= 1
        self.assertEqual(line.like().empty(), 900)
        other = line_of(*deeds, form=form)
        for _ in range(other.like().empty(most=2000) - 901):
            other.tick()
        kept = state_of(other)
        with self.assertRaises(Stuck) as refused:
            other.empty()
        self.assertTrue(is_alike(refused.exception.what, 900))
        self.assertEqual(state_of(other), kept)
        self.assertEqual(other.empty(most=901), 901)

    def test_finished_is_of_all_that_were_fed(self):
        line = Line(FORM)
        unit = PlainUnit(FORM)
        self.assertEqual(line.finished(), unit)
        drawn = random.Random(234)
        for _ in range(30):
            deed = drawn_deed(drawn, FORM, 3)
            line.feed(deed)
            unit.do(deed)
            self.assertEqual(line.finished(), unit)
            line.tick()
            self.assertEqual(line.finished(), unit)
        line.empty()
        self.assertEqual(line.finished(), unit)
        self.assertEqual((line.cells(), line.raised(), line.many()), (unit.cells(), unit.raised(), unit.many()))


class TestOwn(Checked):
    def test_like_goes_on_by_itself(self):
        drawn = random.Random(235)
        for quick in (True, False):
            deeds = [drawn_deed(drawn, FORM, 3) for _ in range(20)]
            line, slow = line_of(*deeds[:14], quick=quick), SlowLine(FORM, quick)
            for deed in deeds[:14]:
                slow.feed(deed)
            for _ in range(17):
                held = drawn_held(drawn, 0.2)
                line.tick(held=held)
                slow.tick(held)
                kept = state_of(line)
                twin = line.like()
                self.assertIs(type(twin), Line)
                self.assertTrue(is_alike(state_of(twin), kept))
                self.assertEqual(twin.feed(deeds[14]), 14)
                twin.tick(held=["read"])
                twin.empty()
                self.assertEqual(state_of(line), kept)
                twin = line.like()
                kept = state_of(twin)
                other = line.like()
                line.tick()
                self.assertEqual(state_of(twin), kept)
                slow.tick()
                self.assertEqual(twin.tick(), other.tick())
                self.assertTrue(is_alike(state_of(line), state_of(twin)))
                self.check(line, slow, Told(FORM, deeds[:14]))

    def test_a_form_changed_later(self):
        form = Form(4, 3)
        line = Line(form)
        form.scale, form.tail = 2, 1
        line.feed(("put", 0, 59))
        line.feed(("over", 1, 0, 0, "near"))
        # Read in the 4th tick, 3 + 4 ticks in first, then second and last.
        self.assertEqual(line.empty(), 13)
        self.assertEqual(line.cells()[:2], [59, 56])
        self.assertEqual(line.like().finished(), line.finished())

    def test_two_to_which_the_same_is_done(self):
        drawn = random.Random(236)
        one, other = Line(FORM), Line(FORM)
        for _ in range(60):
            if drawn.random() < 0.4:
                deed = drawn_deed(drawn, FORM, 2)
                self.assertEqual(one.feed(deed), other.feed(deed))
            held = drawn_held(drawn, 0.2)
            self.assertEqual(one.tick(held=held), other.tick(held=held))
            self.assertTrue(is_alike(state_of(one), state_of(other)))


if __name__ == "__main__":
    unittest.main()
