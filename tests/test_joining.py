import random
import unittest
from fractions import Fraction

from guessedzeros.forms import Form
from guessedzeros.joining import join_steps
from guessedzeros.plain import joined
from guessedzeros.spelling import word_in
from guessedzeros.ways import CUT, DOWN, NEAR, UP, WAYS
from tests.exact import Exact, guess_step
from tests.things import GREAT_FORMS, all_words, drawn_words, is_alike

FORM = Form(4, 3)


def place_due(exact, a, b, c):
    """What is told as "place": both numbers are the whole parts of the worths at the power."""
    (_, x, p), (_, y, q), (_, head, h) = exact.head(a), exact.head(b), exact.head(c)
    p += q
    if h - p > 2 * exact.tail + 5:
        return 0, 8 * head, h - 3, True
    if h >= p:
        return x * y, head * 2 ** (h - p), p, False
    power = max(h, p - exact.tail - 5)
    exactly = head * Fraction(2) ** (h - power)
    kept = exactly.numerator // exactly.denominator
    return x * y * 2 ** (p - power), kept, power, kept != exactly


def steps_due(exact, words, way):
    word, flags = exact.done("join", words, way)
    if not all(exact.is_number(each) for each in words):
        return [("told", word, flags)]
    one, other, power, more = place_due(exact, *words)
    a, b, c = [exact.read(each)[0] for each in words]
    steps = [("place", one, other, power, more)]
    if a ^ b == c:
        steps.append(("sum", one + other))
    else:
        greater, lesser = max(one, other), min(one, other)
        total = greater - lesser - more
        steps += [("less", total), guess_step(greater, lesser, total, len(bin(greater)) - 2)]
    return [*steps, ("round", word, flags)]


class Checked(unittest.TestCase):
    def holds(self, exact, form, words, way):
        told = join_steps(form, *words, way=way)
        if not is_alike(told, steps_due(exact, words, way)):
            self.fail((form, words, way, told, steps_due(exact, words, way)))
        if not is_alike(told[-1][1:], joined(form, *words, way=way)):
            self.fail((form, words, way, told))
        return told


class TestByHand(unittest.TestCase):
    def told(self, words, *steps, way=NEAR):
        told = join_steps(FORM, *[word_in(FORM, word) for word in words], way=way)
        self.assertTrue(is_alike(told, list(steps)), told)

    def test_near_ones(self):
        # 9/8 by 11/8, and 3/2, and -3/2.
        self.told(("0 0111 001", "0 0111 011", "0 0111 100"),
                  ("place", 99, 96, -6, False), ("sum", 195), ("round", 68, ("rounded",)))
        self.told(("0 0111 001", "0 0111 011", "1 0111 100"), ("place", 99, 96, -6, False), ("less", 3),
                  ("guess", 5, 0), ("round", 20, ()))
        self.told(("1 0111 001", "0 0111 011", "0 0111 101"), ("place", 99, 104, -6, False), ("less", 5),
                  ("guess", 3, 1), ("round", 26, ()))
        # The greater one's sign, too, where that's the product's.
        self.told(("1 0111 001", "0 0111 011", "0 0111 100"), ("place", 99, 96, -6, False), ("less", 3),
                  ("guess", 5, 0), ("round", 148, ()))

    def test_far_ones(self):
        # 2 ** -18 and 1; the product goes away from 1, or up to it.
        self.told(("0 0000 001", "0 0000 001", "0 0111 000"),
                  ("place", 0, 64, -6, True), ("sum", 64), ("round", 57, ("rounded",)), way=UP)
        for way, word in ((NEAR, 56), (CUT, 55), (UP, 56), (DOWN, 55)):
            self.told(("1 0000 001", "0 0000 001", "0 0111 000"), ("place", 0, 64, -6, True), ("less", 63),
                      ("guess", 0, 1), ("round", word, ("rounded",)), way=way)
        # 16 by 16, and 3 by 2 ** -9: p is 2, h is -9, so of 11 places 8 are kept.
        self.told(("0 1011 000", "0 1011 000", "1 0000 011"), ("place", 16384, 0, -6, True), ("less", 16383),
                  ("guess", 0, 1), ("round", 119, ("rounded",)), way=CUT)

    def test_total_0(self):
        for way, word in ((NEAR, 0), (CUT, 0), (UP, 0), (DOWN, 128)):
            self.told(("0 0111 000", "1 1000 000", "0 1000 000"), ("place", 64, 64, -5, False), ("less", 0),
                      ("guess", 7, 0), ("round", word, ()), way=way)

    def test_told_at_once(self):
        one, nought, endless, none = "0 0111 000", "1 0000 000", "1 1111 000", "1 1111 010"
        self.told((nought, one, one), ("told", 56, ()))
        self.told((one, nought, one), ("told", 56, ()))
        self.told((one, one, nought), ("told", 56, ()))
        self.told((one, nought, nought), ("told", 128, ()))
        self.told((one, endless, one), ("told", 248, ()))
        self.told((endless, one, "0 1111 000"), ("told", 124, ("bad",)))
        self.told((nought, endless, one), ("told", 124, ("bad",)))
        for words in ((none, one, one), (one, none, one), (one, one, none), (none, endless, nought)):
            self.told(words, ("told", 124, ()))


class TestPlaces(Checked):
    def words_apart(self, form, above):
        """Words of every sort with c's power so much above the product's, where there are such."""
        for scale in range(1, form.top()):
            for other in range(1, form.top()):
                power = scale + other - 2 * (form.bias() + form.tail)
                third = above + power + form.bias() + form.tail
                if 1 <= third < form.top():
                    yield scale, other, third

    def test_at_and_beside_the_bounds(self):
        drawn = random.Random(141)
        for form in (Form(5, 2), Form(5, 3), Form(6, 7), Form(8, 24), Form(8, 12)):
            exact = Exact(form)
            far, low = 2 * form.tail + 5, -(form.tail + 5)
            for above in (far - 1, far, far + 1, far + 2, 1, 0, -1, low + 1, low, low - 1, low - 2, 2 * low):
                found = list(self.words_apart(form, above))
                self.assertNotEqual(found, [])
                seen = []
                for scales in drawn.sample(found, min(len(found), 25)):
                    tails = [drawn.choice((0, 2 ** form.tail - 1, drawn.getrandbits(form.tail))) for _ in range(3)]
                    signs = [drawn.randrange(2) for _ in range(3)]
                    words = [form.word_of(*parts) for parts in zip(signs, scales, tails)]
                    for way in WAYS:
                        place = self.holds(exact, form, words, way)[0]
                    power = exact.head(words[0])[2] + exact.head(words[1])[2]
                    seen.append((place[1] == 0, place[3] - power))
                due = (True, above - 3) if above > far else (False, max(above, low) if above < 0 else 0)
                self.assertEqual(set(seen), {due}, (form, above))

    def test_what_is_cut_off(self):
        # Just beyond the bound a last 1 is cut off, and a last 0 leaves no more.
        form = Form(6, 4)
        for above, tail, more in ((-9, 1, False), (-10, 1, True), (-10, 2, False), (-11, 2, True), (-11, 4, False)):
            # The product of 1 and 1 is at power -8, and at 35 the power is 0.
            third = above - 8 + 35
            words = [form.word_of(0, 31, 0), form.word_of(0, 31, 0), form.word_of(1, third, tail)]
            place = join_steps(form, *words)[0]
            self.assertEqual(place[3:], (-8 + max(above, -9), more), above)
            self.assertEqual(place[1:3], (2 ** (8 + min(-above, 9)), (16 + tail) >> (max(0, -above - 9))))


class TestThrees(Checked):
    def test_all_of_the_smallest(self):
        for form, ways in ((Form(2, 1), 4), (Form(3, 1), 1)):
            exact = Exact(form)
            for a in all_words(form):
                for b in all_words(form):
                    for c in all_words(form):
                        for at in range(ways):
                            self.holds(exact, form, (a, b, c), WAYS[(a + b + c + at) % 4])

    def test_drawn_of_small_forms(self):
        drawn = random.Random(142)
        for form in (Form(2, 3), Form(3, 2), FORM, Form(5, 1)):
            exact = Exact(form)
            for _ in range(800):
                words = [drawn.randrange(2 ** form.width()) for _ in range(3)]
                for way in WAYS:
                    self.holds(exact, form, words, way)

    def test_drawn_of_great_forms(self):
        drawn = random.Random(143)
        for form in GREAT_FORMS:
            exact = Exact(form)
            for _ in range(150):
                words = drawn_words(drawn, form, 3)
                near = exact.done("times", words[:2], "cut")[0]
                # The third one often takes off most of the product, or all of it.
                if drawn.random() < 0.5 and exact.is_number(near):
                    words[2] = near ^ exact.sign_bit ^ drawn.choice((0, 0, 1, 3))
                for way in WAYS:
                    self.holds(exact, form, words, way)

    def test_total_0(self):
        drawn = random.Random(144)
        for form in (FORM, Form(8, 23)):
            exact = Exact(form)
            for _ in range(60):
                scale, tail = drawn.randrange(1, form.top()), drawn.getrandbits(form.tail)
                signs = [drawn.randrange(2), drawn.randrange(2)]
                words = [form.word_of(signs[0], scale, tail), form.word_of(signs[1], form.bias(), 0),
                         form.word_of(1 - signs[0] ^ signs[1], scale, tail)]
                for way in WAYS:
                    told = self.holds(exact, form, words, way)
                    self.assertEqual(told[1], ("less", 0))
                    self.assertEqual(told[-1], ("round", form.nought(1 if way == DOWN else 0), ()))

    def test_by_is_0_or_1(self):
        form = Form(3, 1)
        found = set()
        for a in all_words(form):
            for b in all_words(form):
                for c in all_words(form):
                    found |= {step[2] for step in join_steps(form, a, b, c) if step[0] == "guess"}
        self.assertEqual(found, {0, 1})

    def test_way_left_out(self):
        form = Form(2, 1)
        for a in all_words(form):
            for b in all_words(form):
                self.assertEqual(join_steps(form, a, b, 3), join_steps(form, a, b, 3, way=NEAR))
        with self.assertRaises(TypeError):
            join_steps(form, 1, 2, 3, NEAR)

    def test_own_lists(self):
        steps = join_steps(FORM, 57, 59, 60)
        due = list(steps)
        steps.clear()
        self.assertEqual(join_steps(FORM, 57, 59, 60), due)


if __name__ == "__main__":
    unittest.main()
