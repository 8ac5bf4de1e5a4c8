import random
import unittest

from guessedzeros.dividing import Divider
from guessedzeros.errors import NoStep, Undone
from guessedzeros.forms import Form
from guessedzeros.plain import divided
from guessedzeros.spelling import word_in
from guessedzeros.ways import CUT, DOWN, NEAR, UP, WAYS
from tests.exact import Exact
from tests.things import GREAT_FORMS, all_words, drawn_words, is_alike

FORM = Form(4, 3)
ONE, THREE = word_in(FORM, "0 0111 000"), word_in(FORM, "0 1000 100")
FORMS = (Form(2, 1), Form(2, 2), Form(3, 1), Form(3, 2), Form(2, 3))


def shown(divider):
    return divider.digits(), divider.quotient(), divider.rest(), divider.divisor(), divider.left()


def gone_through(divider):
    while divider.left():
        divider.step()
    return divider


def digit_due(rest, divisor, tail, signed):
    if signed:
        return (rest >= 2 ** tail) - (rest < -(2 ** tail))
    return int(rest >= divisor)


class Checked(unittest.TestCase):
    def steps_hold(self, form, a, b, signed):
        """Goes through all steps of two small or plain words, and holds each against what is told of it."""
        exact = Exact(form)
        first, divisor = [exact.head(word)[1] for word in (a, b)]
        first, divisor = [int(bin(head)[2:].ljust(form.tail + 1, "0"), 2) for head in (first, divisor)]
        divider = Divider(form, a, b, signed=signed)
        self.assertTrue(is_alike(shown(divider), ([], 0, first, divisor, form.tail + 3)))
        digits, rest = [], first
        for many in range(1, form.tail + 4):
            rest = rest if many == 1 else 2 * rest
            digit = digit_due(rest, divisor, form.tail, signed)
            rest -= digit * divisor
            if not is_alike(divider.step(), digit):
                self.fail((form, a, b, signed, digits, digit))
            digits.append(digit)
            quotient = divider.quotient()
            if not is_alike(shown(divider), (digits, quotient, rest, divisor, form.tail + 3 - many)):
                self.fail((form, a, b, signed, shown(divider)))
            self.assertEqual(first * 2 ** (many - 1), quotient * divisor + rest)
            self.assertEqual(sum(each * 2 ** at for at, each in enumerate(reversed(digits))), quotient)
            self.assertLess(abs(rest), divisor)
        return divider

    def outcome_holds(self, exact, form, a, b, way):
        due = exact.done("over", [a, b], way)
        for signed in (False, True):
            divider = gone_through(Divider(form, a, b, way=way, signed=signed))
            before = shown(divider)
            told = divider.outcome()
            if not (is_alike(told, due) and is_alike(told, divided(form, a, b, way=way))):
                self.fail((form, a, b, way, signed, told, due))
            if not (is_alike(shown(divider), before) and is_alike(divider.outcome(), due)):
                self.fail((form, a, b, way, signed, before, shown(divider)))


class TestByHand(unittest.TestCase):
    def test_not_signed(self):
        # 8 by 12: 1 by 3 is 1/3, which begins behind the first place.
        divider = Divider(FORM, ONE, THREE)
        self.assertTrue(is_alike(shown(divider), ([], 0, 8, 12, 6)))
        self.assertTrue(is_alike([divider.step() for _ in range(3)], [0, 1, 0]))
        self.assertTrue(is_alike(shown(divider), ([0, 1, 0], 2, 8, 12, 3)))
        self.assertTrue(is_alike([divider.step() for _ in range(3)], [1, 0, 1]))
        self.assertTrue(is_alike(shown(divider), ([0, 1, 0, 1, 0, 1], 21, 4, 12, 0)))
        self.assertTrue(is_alike(divider.outcome(), (word_in(FORM, "0 0101 011"), ("rounded",))))

    def test_signed(self):
        divider = Divider(FORM, ONE, THREE, signed=True)
        self.assertTrue(is_alike([divider.step() for _ in range(6)], [1, 0, -1, 0, -1, 0]))
        self.assertTrue(is_alike(shown(divider), ([1, 0, -1, 0, -1, 0], 22, -8, 12, 0)))
        self.assertTrue(is_alike(divider.outcome(), (word_in(FORM, "0 0101 011"), ("rounded",))))
        self.assertTrue(is_alike(shown(divider), ([1, 0, -1, 0, -1, 0], 22, -8, 12, 0)))

    def test_at_the_bounds_of_signed(self):
        # 15 by 11: 4, then just 8 and so -3, -6, then -12 and so -1; 8 by 12: -4, then just -8, which stays.
        divider = Divider(FORM, word_in(FORM, "0 0111 111"), word_in(FORM, "0 0111 011"), signed=True)
        self.assertTrue(is_alike([divider.step() for _ in range(6)], [1, 1, 0, -1, 0, 0]))
        self.assertEqual(divider.rest(), -4)
        divider = Divider(FORM, ONE, word_in(FORM, "0 0111 100"), signed=True)
        self.assertTrue(is_alike([divider.step(), divider.rest()], [1, -4]))
        self.assertTrue(is_alike([divider.step(), divider.rest()], [0, -8]))
        self.assertTrue(is_alike([divider.step(), divider.rest()], [-1, -4]))

    def test_small_heads_are_shifted(self):
        # 3 and 1 of the tail are both shifted till they have four bits: 12 by 8.
        divider = Divider(FORM, 3, 129)
        self.assertTrue(is_alike(shown(divider), ([], 0, 12, 8, 6)))
        self.assertTrue(is_alike([divider.step() for _ in range(6)], [1, 1, 0, 0, 0, 0]))
        self.assertTrue(is_alike(divider.outcome(), (word_in(FORM, "1 1000 100"), ())))
        self.assertTrue(is_alike(gone_through(Divider(FORM, 7, FORM.greatest())).outcome(), (0, ("under", "rounded"))))

    def test_each_way(self):
        for signed in (False, True):
            for way, word in ((NEAR, 171), (CUT, 170), (UP, 170), (DOWN, 171)):
                divider = Divider(FORM, FORM.turned(ONE), THREE, way=way, signed=signed)
                self.assertTrue(is_alike(gone_through(divider).outcome(), (word, ("rounded",))))

    def test_left_out(self):
        divider = gone_through(Divider(FORM, ONE, THREE))
        self.assertEqual(shown(divider), shown(gone_through(Divider(FORM, ONE, THREE, way=NEAR, signed=False))))
        self.assertEqual(divider.outcome(), divided(FORM, ONE, THREE))
        with self.assertRaises(TypeError):
            Divider(FORM, ONE, THREE, NEAR)


class TestNothingToBeDone(unittest.TestCase):
    def test_none_endless_and_nought(self):
        form = Form(3, 2)
        still = [word for word in all_words(form) if form.sort_of(word) in ("none", "endless", "nought")]
        self.assertEqual(len(still), 10)
        exact = Exact(form)
        for one in still:
            for other in all_words(form):
                for a, b in ((one, other), (other, one)):
                    for way in WAYS:
                        divider = Divider(form, a, b, way=way, signed=way in (UP, CUT))
                        self.assertTrue(is_alike(shown(divider), ([], 0, None, None, 0)))
                        self.assertTrue(is_alike(divider.outcome(), exact.done("over", [a, b], way)), (a, b))
                        with self.assertRaises(NoStep) as told:
                            divider.step()
                        self.assertTrue(is_alike(told.exception.what, 0))
                        self.assertTrue(is_alike(shown(divider), ([], 0, None, None, 0)))

    def test_like(self):
        divider = Divider(FORM, ONE, 0).like()
        self.assertTrue(is_alike(shown(divider), ([], 0, None, None, 0)))
        self.assertTrue(is_alike(divider.outcome(), (FORM.endless(), ("bynought",))))


class TestRefusals(unittest.TestCase):
    def test_just_where_they_are_due(self):
        for form in (Form(2, 1), FORM, Form(8, 24)):
            for signed in (False, True):
                divider = Divider(form, form.least_plain(), form.greatest(1), signed=signed)
                for left in range(form.tail + 3, 0, -1):
                    before = shown(divider)
                    for _ in range(2):
                        with self.assertRaises(Undone) as told:
                            divider.outcome()
                        self.assertTrue(is_alike(told.exception.what, left))
                        self.assertTrue(is_alike(shown(divider), before))
                    divider.step()
                before, due = shown(divider), divider.outcome()
                for _ in range(2):
                    with self.assertRaises(NoStep) as told:
                        divider.step()
                    self.assertTrue(is_alike(told.exception.what, form.tail + 3))
                    self.assertTrue(is_alike(shown(divider), before))
                    self.assertTrue(is_alike(divider.outcome(), due))


class TestSteps(Checked):
    def test_all_pairs(self):
        for form in FORMS:
            numbers = [word for word in all_words(form) if form.sort_of(word) in ("small", "plain")]
            for a in numbers:
                for b in numbers:
                    self.steps_hold(form, a, b, False)
                    self.steps_hold(form, a, b, True)

    def test_drawn(self):
        drawn = random.Random(151)
        found = set()
        for form in GREAT_FORMS:
            for _ in range(60):
                a, b = [word for word in drawn_words(drawn, form, 2)]
                if {form.sort_of(a), form.sort_of(b)} <= {"small", "plain"}:
                    self.steps_hold(form, a, b, False)
                    found |= set(self.steps_hold(form, a, b, True).digits())
        self.assertEqual(found, {-1, 0, 1})


class TestOutcome(Checked):
    def test_all_pairs_by_every_way(self):
        for form in FORMS:
            exact = Exact(form)
            for a in all_words(form):
                for b in all_words(form):
                    for way in WAYS:
                        self.outcome_holds(exact, form, a, b, way)

    def test_drawn_of_great_forms(self):
        drawn = random.Random(152)
        for form in GREAT_FORMS:
            exact = Exact(form)
            for _ in range(100):
                a, b = drawn_words(drawn, form, 2)
                for way in WAYS:
                    self.outcome_holds(exact, form, a, b, way)


class TestOwn(unittest.TestCase):
    def test_like_is_one_of_its_own(self):
        for signed in (False, True):
            divider = Divider(FORM, ONE, FORM.turned(THREE), way=DOWN, signed=signed)
            divider.step()
            divider.step()
            twin = divider.like()
            self.assertIsInstance(twin, Divider)
            self.assertTrue(is_alike(shown(twin), shown(divider)))
            before = shown(divider)
            gone_through(twin)
            self.assertTrue(is_alike(shown(divider), before))
            ended = shown(twin)
            gone_through(divider)
            self.assertTrue(is_alike(shown(divider), ended))
            self.assertTrue(is_alike(divider.outcome(), divided(FORM, ONE, FORM.turned(THREE), way=DOWN)))
            self.assertTrue(is_alike(divider.like().outcome(), divider.outcome()))

    def test_changes_of_what_was_told(self):
        divider = Divider(FORM, ONE, THREE)
        for many in range(7):
            told = divider.digits()
            told.append(1)
            told[0] = 5
            self.assertTrue(is_alike(divider.digits(), [0, 1, 0, 1, 0, 1][:many]))
            self.assertEqual(divider.left(), 6 - many)
            if many < 6:
                divider.step()
        self.assertEqual(divider.outcome(), divided(FORM, ONE, THREE))

    def test_a_form_that_is_changed_later(self):
        form = Form(4, 3)
        divider = Divider(form, ONE, THREE)
        nothing = Divider(form, ONE, 0)
        form.scale, form.tail = 5, 9
        gone_through(divider)
        self.assertTrue(is_alike(shown(divider), ([0, 1, 0, 1, 0, 1], 21, 4, 12, 0)))
        self.assertEqual(divider.outcome(), divided(FORM, ONE, THREE))
        self.assertEqual(nothing.outcome(), (FORM.endless(), ("bynought",)))

    def test_two_do_the_same(self):
        one, other = Divider(FORM, THREE, ONE), Divider(FORM, THREE, ONE)
        one.step()
        self.assertEqual(other.digits(), [])
        gone_through(one)
        gone_through(other)
        self.assertEqual((shown(one), one.outcome()), (shown(other), other.outcome()))


if __name__ == "__main__":
    unittest.main()
