import random
import unittest
from fractions import Fraction

from guessedzeros.adding import add_steps, take_steps
from guessedzeros.forms import Form
from guessedzeros.plain import added, taken
from guessedzeros.spelling import word_in
from guessedzeros.ways import CUT, DOWN, NEAR, UP, WAYS
from tests.exact import Exact, guess_step
from tests.things import GREAT_FORMS, all_words, drawn_words, is_alike

FORM = Form(4, 3)
FORMS = (Form(2, 1), Form(2, 2), Form(3, 1), Form(3, 2), Form(2, 3))


def steps_due(exact, a, b, way):
    """The steps of a sum, reckoned with fractions of the greater one's power less 2."""
    word, flags = exact.done("add", [a, b], way)
    if not (exact.is_number(a) and exact.is_number(b)):
        return [("told", word, flags)]
    greater, lesser = (a, b) if exact.read(a)[1] >= exact.read(b)[1] else (b, a)
    sign, head, power = exact.head(greater)
    other_sign, size = exact.read(lesser)
    exactly = size / (Fraction(2) ** power / 4)
    number = exactly.numerator // exactly.denominator
    steps = [("order", greater, lesser), ("shift", number, exactly != number)]
    if sign == other_sign:
        steps.append(("sum", 4 * head + number))
    else:
        left = 4 * head - exactly
        total = left.numerator // left.denominator
        steps += [("less", total), guess_step(4 * head, number, total, exact.tail + 3)]
    return [*steps, ("round", word, flags)]


def is_told_right(exact, form, a, b, way):
    turned = b ^ exact.sign_bit
    told, taken_told = add_steps(form, a, b, way=way), take_steps(form, a, b, way=way)
    return (is_alike(told, steps_due(exact, a, b, way)) and is_alike(taken_told, steps_due(exact, a, turned, way))
            and is_alike(told[-1][1:], added(form, a, b, way=way))
            and is_alike(taken_told[-1][1:], taken(form, a, b, way=way)))


class TestByHand(unittest.TestCase):
    def told(self, one, other, *steps, way=NEAR):
        a, b = word_in(FORM, one), word_in(FORM, other)
        self.assertTrue(is_alike(add_steps(FORM, a, b, way=way), list(steps)), add_steps(FORM, a, b, way=way))
        told = take_steps(FORM, a, FORM.turned(b), way=way)
        self.assertTrue(is_alike(told, list(steps)), told)

    def test_signs_alike(self):
        # 9/8 and 9/8; 9/8 and 9/32; -1 and what is too small for the bits that are kept.
        self.told("0 0111 001", "0 0111 001",
                  ("order", 57, 57), ("shift", 36, False), ("sum", 72), ("round", 65, ()))
        self.told("0 0101 001", "0 0111 001",
                  ("order", 57, 41), ("shift", 9, False), ("sum", 45), ("round", 59, ("rounded",)))
        for way, word in ((NEAR, 184), (CUT, 184), (UP, 184), (DOWN, 185)):
            self.told("1 0111 000", "1 0000 001", ("order", 184, 129), ("shift", 0, True), ("sum", 32),
                      ("round", word, ("rounded",)), way=way)

    def test_signs_unlike(self):
        # 1 less 15/16; 1 less 9/512: 31/32 would be a tie, what was cut off decides it.
        self.told("0 0111 000", "1 0110 111", ("order", 56, 183), ("shift", 30, False), ("less", 2),
                  ("guess", 4, 0), ("round", 24, ()))
        self.told("1 0001 001", "0 0111 000", ("order", 56, 137), ("shift", 0, True), ("less", 31),
                  ("guess", 0, 1), ("round", 56, ("rounded",)))
        self.told("1 0001 001", "0 0111 000", ("order", 56, 137), ("shift", 0, True), ("less", 31),
                  ("guess", 0, 1), ("round", 55, ("rounded",)), way=CUT)
        # The sign is the greater one's, in whichever place it stands.
        self.told("0 0110 111", "1 0111 000", ("order", 184, 55), ("shift", 30, False), ("less", 2),
                  ("guess", 4, 0), ("round", 152, ()))

    def test_total_0(self):
        for way, word in ((NEAR, 0), (CUT, 0), (UP, 0), (DOWN, 128)):
            self.told("0 0111 101", "1 0111 101", ("order", 61, 189), ("shift", 52, False), ("less", 0),
                      ("guess", 6, 0), ("round", word, ()), way=way)
            self.told("1 0000 001", "0 0000 001", ("order", 129, 1), ("shift", 4, False), ("less", 0),
                      ("guess", 6, 0), ("round", word, ()), way=way)

    def test_of_alike_ones_a_is_first(self):
        self.assertEqual(add_steps(FORM, 57, 185)[0], ("order", 57, 185))
        self.assertEqual(add_steps(FORM, 185, 57)[0], ("order", 185, 57))
        self.assertEqual(take_steps(FORM, 57, 57)[0], ("order", 57, 185))
        self.assertEqual(take_steps(FORM, 185, 57)[0], ("order", 185, 185))

    def test_small_ones_and_those_beyond(self):
        self.told("0 0000 011", "0 0000 110",
                  ("order", 6, 3), ("shift", 12, False), ("sum", 36), ("round", 9, ()))
        # Small ones have the power of the least plain ones: nothing is shifted.
        self.told("0 0001 000", "1 0000 001", ("order", 8, 129), ("shift", 4, False), ("less", 28),
                  ("guess", 0, 1), ("round", 7, ()))
        for way, word in ((NEAR, 120), (CUT, 119), (UP, 120), (DOWN, 119)):
            self.told("0 1110 111", "0 1110 111", ("order", 119, 119), ("shift", 60, False), ("sum", 120),
                      ("round", word, ("over", "rounded")), way=way)

    def test_told_at_once(self):
        self.told("0 0000 000", "0 0000 000", ("told", 0, ()))
        self.told("1 0000 000", "1 0000 000", ("told", 128, ()))
        self.told("1 0000 000", "0 0000 000", ("told", 0, ()))
        self.told("1 0000 000", "0 0000 000", ("told", 128, ()), way=DOWN)
        self.told("0 0000 000", "1 0111 000", ("told", 184, ()))
        self.told("0 0111 000", "1 0000 000", ("told", 56, ()))
        self.told("0 1111 000", "0 0111 000", ("told", 120, ()))
        self.told("0 1111 000", "1 1111 000", ("told", 124, ("bad",)))
        self.told("0 1111 001", "0 0111 000", ("told", 124, ()))
        self.told("0 0111 000", "1 1111 111", ("told", 124, ()))


class TestAllPairs(unittest.TestCase):
    def test_each_step_and_the_plain_unit(self):
        for form in FORMS:
            exact = Exact(form)
            for a in all_words(form):
                for b in all_words(form):
                    for way in WAYS:
                        if not is_told_right(exact, form, a, b, way):
                            self.fail((form, a, b, way, add_steps(form, a, b, way=way)))

    def test_way_left_out(self):
        form = Form(3, 2)
        for a in all_words(form):
            for b in all_words(form):
                self.assertEqual(add_steps(form, a, b), add_steps(form, a, b, way=NEAR))
                self.assertEqual(take_steps(form, a, b), take_steps(form, a, b, way=NEAR))
        for steps in (add_steps, take_steps):
            with self.assertRaises(TypeError):
                steps(form, 1, 2, NEAR)

    def test_by_is_0_or_1(self):
        form = Form(3, 3)
        found = set()
        for a in all_words(form):
            for b in all_words(form):
                found |= {step[2] for step in add_steps(form, a, b) if step[0] == "guess"}
        self.assertEqual(found, {0, 1})

    def test_own_lists(self):
        steps = add_steps(FORM, 57, 1)
        due = list(steps)
        steps.clear()
        self.assertEqual(add_steps(FORM, 57, 1), due)


class TestDrawn(unittest.TestCase):
    def test_great_forms(self):
        drawn = random.Random(121)
        kinds = []
        for form in GREAT_FORMS:
            exact = Exact(form)
            for _ in range(250):
                a, b = drawn_words(drawn, form, 2)
                if drawn.random() < 0.1:
                    b = a ^ exact.sign_bit ^ drawn.choice((0, 1, 2))
                for way in WAYS:
                    self.assertTrue(is_told_right(exact, form, a, b, way), (form, a, b, way))
                kinds += [step[:1] + step[2:] for step in add_steps(form, a, b) if step[0] in ("shift", "less")]
        for kind in (("shift", True), ("shift", False), ("less",)):
            self.assertGreater(kinds.count(kind), 200)

    def test_every_distance_of_powers(self):
        drawn = random.Random(122)
        for form in (Form(5, 10), Form(6, 24), Form(8, 3)):
            exact = Exact(form)
            for apart in range(min(form.tail + 6, form.top() - 2)):
                for _ in range(12):
                    scale = drawn.randrange(apart + 1, form.top())
                    a = form.word_of(drawn.randrange(2), scale, drawn.choice((0, drawn.getrandbits(form.tail))))
                    b = form.word_of(drawn.randrange(2), scale - apart, drawn.getrandbits(form.tail))
                    for way in WAYS:
                        self.assertTrue(is_told_right(exact, form, a, b, way), (form, a, b, way))
                        self.assertTrue(is_told_right(exact, form, b, a, way), (form, b, a, way))


if __name__ == "__main__":
    unittest.main()
