import math
import random
import struct
import unittest

from guessedzeros.forms import Form
from guessedzeros.plain import added, divided, done, joined, multiplied, taken
from guessedzeros.spelling import word_in
from guessedzeros.ways import CUT, DOWN, NEAR, UP, WAYS
from tests.exact import Exact
from tests.things import GREAT_FORMS, all_words, drawn_word, drawn_words, is_alike

FORM = Form(4, 3)
PAIRED = {"add": added, "take": taken, "times": multiplied, "over": divided}
NONE, BAD = FORM.none_word(), (FORM.none_word(), ("bad",))
ONE = word_in(FORM, "0 0111 000")
TWO = word_in(FORM, "0 1000 000")
NONES = [word for word in all_words(FORM) if FORM.sort_of(word) == "none"]
NUMBERS = [1, 7, 8, ONE, TWO, ONE + 3, FORM.greatest()]
NUMBERS += [FORM.turned(word) for word in NUMBERS]


def signed(word, sign):
    return FORM.turned(word) if sign else word


class TestNone(unittest.TestCase):
    def test_none_of_every_tail_and_sign_by_every_op(self):
        self.assertEqual(len(NONES), 14)
        for none in NONES:
            for word in all_words(FORM):
                for way in WAYS:
                    for reckon in PAIRED.values():
                        self.assertTrue(is_alike(reckon(FORM, none, word, way=way), (NONE, ())))
                        self.assertTrue(is_alike(reckon(FORM, word, none, way=way), (NONE, ())))

    def test_none_in_each_place_of_joined(self):
        edges = [FORM.nought(), FORM.nought(1), FORM.endless(), FORM.endless(1), ONE, 1, NONE]
        for none in NONES:
            for one in edges:
                for other in edges:
                    for words in ((none, one, other), (one, none, other), (one, other, none)):
                        self.assertTrue(is_alike(joined(FORM, *words), (NONE, ())))


class TestAdded(unittest.TestCase):
    def test_endless(self):
        for sign in (0, 1):
            endless = FORM.endless(sign)
            for way in WAYS:
                self.assertTrue(is_alike(added(FORM, endless, FORM.endless(1 - sign), way=way), BAD))
                self.assertTrue(is_alike(taken(FORM, endless, endless, way=way), BAD))
                self.assertTrue(is_alike(taken(FORM, endless, FORM.endless(1 - sign), way=way), (endless, ())))
                for word in NUMBERS + [0, 128, endless]:
                    self.assertTrue(is_alike(added(FORM, endless, word, way=way), (endless, ())))
                    self.assertTrue(is_alike(added(FORM, word, endless, way=way), (endless, ())))
                for word in NUMBERS + [0, 128]:
                    self.assertEqual(taken(FORM, word, endless, way=way), (FORM.endless(1 - sign), ()))

    def test_sum_0(self):
        for way in WAYS:
            lone = (FORM.nought(1 if way == DOWN else 0), ())
            self.assertTrue(is_alike(added(FORM, 0, 0, way=way), (0, ())))
            self.assertTrue(is_alike(added(FORM, 128, 128, way=way), (128, ())))
            self.assertTrue(is_alike(added(FORM, 0, 128, way=way), lone))
            self.assertTrue(is_alike(added(FORM, 128, 0, way=way), lone))
            self.assertEqual(taken(FORM, 0, 0, way=way), lone)
            self.assertEqual(taken(FORM, 0, 128, way=way), (0, ()))
            self.assertEqual(taken(FORM, 128, 0, way=way), (128, ()))
            for word in NUMBERS:
                self.assertEqual(added(FORM, word, FORM.turned(word), way=way), lone)
                self.assertEqual(taken(FORM, word, word, way=way), lone)

    def test_by_hand(self):
        self.assertTrue(is_alike(added(FORM, ONE, ONE), (TWO, ())))
        self.assertTrue(is_alike(taken(FORM, TWO, ONE), (ONE, ())))
        self.assertEqual(added(FORM, ONE, 1), (ONE, ("rounded",)))
        self.assertEqual(added(FORM, ONE, 1, way=UP), (ONE + 1, ("rounded",)))
        self.assertEqual(added(FORM, ONE, 1, way=CUT), (ONE, ("rounded",)))
        self.assertEqual(taken(FORM, ONE, 1, way=DOWN), (ONE - 1, ("rounded",)))
        self.assertEqual(added(FORM, 3, 4), (7, ()))
        self.assertEqual(added(FORM, 7, 1), (8, ()))
        greatest = FORM.greatest()
        self.assertEqual(added(FORM, greatest, greatest), (FORM.endless(), ("over", "rounded")))
        self.assertEqual(added(FORM, greatest, greatest, way=DOWN), (greatest, ("over", "rounded")))
        self.assertEqual(added(FORM, ONE, 128), (ONE, ()))


class TestMultiplied(unittest.TestCase):
    def test_endless_and_nought(self):
        for one in (0, 1):
            for other in (0, 1):
                sign = one ^ other
                for way in WAYS:
                    endless, nought = FORM.endless(one), FORM.nought(other)
                    self.assertTrue(is_alike(multiplied(FORM, endless, nought, way=way), BAD))
                    self.assertTrue(is_alike(multiplied(FORM, nought, endless, way=way), BAD))
                    due = (FORM.endless(sign), ())
                    self.assertTrue(is_alike(multiplied(FORM, endless, FORM.endless(other), way=way), due))
                    for size in (1, 8, ONE, FORM.greatest()):
                        word = signed(size, other)
                        self.assertEqual(multiplied(FORM, endless, word, way=way), due)
                        self.assertEqual(multiplied(FORM, word, endless, way=way), due)
                        nothing = (FORM.nought(sign), ())
                        self.assertEqual(multiplied(FORM, FORM.nought(one), word, way=way), nothing)
                        self.assertEqual(multiplied(FORM, word, FORM.nought(one), way=way), nothing)
                    self.assertEqual(multiplied(FORM, FORM.nought(one), nought, way=way), (FORM.nought(sign), ()))

    def test_by_hand(self):
        self.assertTrue(is_alike(multiplied(FORM, TWO, FORM.turned(ONE)), (FORM.turned(TWO), ())))
        self.assertEqual(multiplied(FORM, 1, 1), (0, ("under", "rounded")))
        self.assertEqual(multiplied(FORM, 1, 129), (128, ("under", "rounded")))
        self.assertEqual(multiplied(FORM, 1, 129, way=DOWN), (129, ("under", "rounded")))
        self.assertEqual(multiplied(FORM, FORM.greatest(), TWO), (FORM.endless(), ("over", "rounded")))


class TestDivided(unittest.TestCase):
    def test_endless_and_nought(self):
        for one in (0, 1):
            for other in (0, 1):
                sign = one ^ other
                endless, nought = (FORM.endless(sign), ()), (FORM.nought(sign), ())
                for way in WAYS:
                    def told(a, b):
                        return divided(FORM, signed(a, one), signed(b, other), way=way)
                    self.assertTrue(is_alike(told(0, 0), BAD))
                    self.assertTrue(is_alike(told(FORM.endless(), FORM.endless()), BAD))
                    self.assertTrue(is_alike(told(FORM.endless(), 0), endless))
                    self.assertTrue(is_alike(told(0, FORM.endless()), nought))
                    for size in (1, 8, ONE, FORM.greatest()):
                        self.assertEqual(told(FORM.endless(), size), endless)
                        self.assertEqual(told(size, FORM.endless()), nought)
                        self.assertEqual(told(0, size), nought)
                        self.assertTrue(is_alike(told(size, 0), (FORM.endless(sign), ("bynought",))))

    def test_by_hand(self):
        three = word_in(FORM, "0 1000 100")
        self.assertTrue(is_alike(divided(FORM, three, TWO), (word_in(FORM, "0 0111 100"), ())))
        self.assertEqual(divided(FORM, ONE, three), (word_in(FORM, "0 0101 011"), ("rounded",)))
        self.assertEqual(divided(FORM, ONE, three, way=CUT), (word_in(FORM, "0 0101 010"), ("rounded",)))
        self.assertEqual(divided(FORM, 1, TWO), (0, ("under", "rounded")))
        self.assertEqual(divided(FORM, FORM.greatest(), 1), (FORM.endless(), ("over", "rounded")))


class TestJoined(unittest.TestCase):
    def test_endless(self):
        for sign in (0, 1):
            endless, across = FORM.endless(sign), FORM.endless(1 - sign)
            for way in WAYS:
                for c in [0, 128, ONE, endless, across]:
                    for other in (0, 1):
                        nought = FORM.nought(other)
                        self.assertTrue(is_alike(joined(FORM, endless, nought, c, way=way), BAD))
                        self.assertTrue(is_alike(joined(FORM, nought, endless, c, way=way), BAD))
                self.assertTrue(is_alike(joined(FORM, endless, ONE, across, way=way), BAD))
                self.assertTrue(is_alike(joined(FORM, ONE, across, endless, way=way), BAD))
                self.assertTrue(is_alike(joined(FORM, endless, ONE, endless, way=way), (endless, ())))
                self.assertTrue(is_alike(joined(FORM, endless, FORM.turned(ONE), ONE, way=way), (across, ())))
                self.assertTrue(is_alike(joined(FORM, TWO, ONE, endless, way=way), (endless, ())))
                self.assertTrue(is_alike(joined(FORM, 0, ONE, endless, way=way), (endless, ())))

    def test_sum_0(self):
        for way in WAYS:
            lone = (FORM.nought(1 if way == DOWN else 0), ())
            minus = FORM.turned(ONE)
            self.assertTrue(is_alike(joined(FORM, ONE, TWO, FORM.turned(TWO), way=way), lone))
            self.assertTrue(is_alike(joined(FORM, minus, TWO, TWO, way=way), lone))
            self.assertTrue(is_alike(joined(FORM, 0, ONE, 0, way=way), (0, ())))
            self.assertTrue(is_alike(joined(FORM, 0, minus, 128, way=way), (128, ())))
            self.assertTrue(is_alike(joined(FORM, 128, 128, 0, way=way), (0, ())))
            self.assertTrue(is_alike(joined(FORM, 0, ONE, 128, way=way), lone))
            self.assertTrue(is_alike(joined(FORM, minus, 0, 0, way=way), lone))

    def test_rounded_once(self):
        # 9/8 by 9/8 is 81/64; rounded by itself it would be 10/8, and nothing would be left.
        word = word_in(FORM, "0 0111 001")
        ten = word_in(FORM, "1 0111 010")
        self.assertEqual(joined(FORM, word, word, ten), (word_in(FORM, "0 0001 000"), ()))
        # A product too small for any word is left only in how it's rounded, with no under.
        self.assertEqual(joined(FORM, 1, 1, ONE, way=UP), (ONE + 1, ("rounded",)))
        # A product beyond all words comes back.
        greatest = FORM.greatest()
        self.assertEqual(joined(FORM, greatest, TWO, FORM.turned(greatest)), (greatest, ()))


class TestAllPairs(unittest.TestCase):
    def test_against_exact(self):
        for form in (Form(2, 1), Form(2, 2), Form(3, 1), Form(3, 2), Form(2, 3)):
            exact = Exact(form)
            for op, reckon in PAIRED.items():
                for a in all_words(form):
                    for b in all_words(form):
                        for way in WAYS:
                            told = reckon(form, a, b, way=way)
                            due = exact.done(op, [a, b], way)
                            if not is_alike(told, due):
                                self.fail((form, op, a, b, way, told, due))

    def test_way_left_out(self):
        form = Form(2, 2)
        for op, reckon in PAIRED.items():
            for a in all_words(form):
                for b in all_words(form):
                    near = reckon(form, a, b, way=NEAR)
                    self.assertEqual(reckon(form, a, b), near)
                    self.assertEqual(done(form, op, [a, b]), near)
                    self.assertEqual(joined(form, a, b, a), joined(form, a, b, a, way=NEAR))
        with self.assertRaises(TypeError):
            added(form, 1, 2, NEAR)

    def test_every_three_of_the_smallest(self):
        form = Form(2, 1)
        exact = Exact(form)
        for a in all_words(form):
            for b in all_words(form):
                for c in all_words(form):
                    for way in WAYS:
                        told = joined(form, a, b, c, way=way)
                        self.assertTrue(is_alike(told, exact.done("join", [a, b, c], way)), (a, b, c, way, told))

    def test_drawn_threes(self):
        drawn = random.Random(11)
        for form in (Form(2, 2), Form(3, 2), FORM):
            exact = Exact(form)
            for _ in range(2500):
                words = [drawn.randrange(2 ** form.width()) for _ in range(3)]
                for way in WAYS:
                    told = joined(form, *words, way=way)
                    due = exact.done("join", words, way)
                    self.assertTrue(is_alike(told, due), (form, words, way, told, due))


class TestDone(unittest.TestCase):
    def test_lists_and_tuples(self):
        drawn = random.Random(12)
        form = Form(3, 2)
        for op, reckon in [*PAIRED.items(), ("join", joined)]:
            for _ in range(400):
                words = [drawn.randrange(64) for _ in range(3 if op == "join" else 2)]
                handed = list(words)
                for way in WAYS:
                    due = reckon(form, *words, way=way)
                    self.assertTrue(is_alike(done(form, op, handed, way=way), due))
                    self.assertTrue(is_alike(done(form, op, tuple(words), way=way), due))
                self.assertEqual(handed, words)


class TestGreaterForms(unittest.TestCase):
    def test_against_exact(self):
        drawn = random.Random(13)
        for form in GREAT_FORMS:
            exact = Exact(form)
            for _ in range(120):
                words = drawn_words(drawn, form, 3)
                for op in ("add", "take", "times", "over", "join"):
                    told_words = words if op == "join" else words[:2]
                    for way in WAYS:
                        told = done(form, op, told_words, way=way)
                        due = exact.done(op, told_words, way)
                        self.assertTrue(is_alike(told, due), (form, op, told_words, way, told, due))

    def test_against_the_floats_of_this_machine(self):
        drawn = random.Random(14)
        for form, code, size in ((Form(5, 10), "<e", 2), (Form(8, 23), "<f", 4)):
            def read(word):
                return struct.unpack(code, word.to_bytes(size, "little"))[0]

            def written(number):
                try:
                    return int.from_bytes(struct.pack(code, number), "little")
                except OverflowError:
                    return form.endless(1 if number < 0 else 0)

            for _ in range(4000):
                a = drawn_word(drawn, form, form.word_of(0, form.bias(), 0))
                b = drawn_word(drawn, form, a)
                x, y = read(a), read(b)
                # A double has more than twice the bits, so that rounding it again is as if done once.
                reckoned = {"add": x + y, "take": x - y, "times": x * y}
                if y != 0:
                    reckoned["over"] = x / y
                for op, number in reckoned.items():
                    told = done(form, op, (a, b))[0]
                    due = form.none_word() if math.isnan(number) else written(number)
                    self.assertEqual(told, due, (form, op, a, b))


if __name__ == "__main__":
    unittest.main()
