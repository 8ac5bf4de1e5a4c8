import random
import unittest

from guessedzeros.digits import digits_of, worth_of, zeros_of
from tests.things import is_alike


def zeros_by_text(number, many):
    text = bin(abs(number))[2:].rjust(many, "0") if many else ""
    return text.index("1") if "1" in text else many


class TestDigits(unittest.TestCase):
    def test_by_hand(self):
        self.assertTrue(is_alike(digits_of(5, 3, 3), [1, -1, 0]))
        self.assertTrue(is_alike(digits_of(0, 7, 4), [0, -1, -1, -1]))
        self.assertTrue(is_alike(digits_of(0, 0, 0), []))
        self.assertTrue(is_alike(worth_of([1, -1, 0]), 2))
        self.assertTrue(is_alike(worth_of([-1, 1, 1]), -1))
        self.assertTrue(is_alike(worth_of([]), 0))
        self.assertTrue(is_alike(worth_of((0, 0, -1)), -1))

    def test_all_pairs_of_few_bits(self):
        for many in range(7):
            for one in range(2 ** many):
                for other in range(2 ** many):
                    due = [int(a) - int(b) for a, b in zip(f"{one + 2 ** many:b}"[1:], f"{other + 2 ** many:b}"[1:])]
                    digits = digits_of(one, other, many)
                    self.assertTrue(is_alike(digits, due))
                    self.assertTrue(is_alike(worth_of(digits), one - other))
                    self.assertTrue(is_alike(worth_of(tuple(digits)), one - other))
                    self.assertEqual(digits, due)

    def test_drawn_great_ones(self):
        drawn = random.Random(21)
        for many in (24, 63, 64, 65, 80):
            for _ in range(200):
                one, other = drawn.getrandbits(many), drawn.getrandbits(many)
                digits = digits_of(one, other, many)
                self.assertEqual(len(digits), many)
                self.assertTrue(set(digits) <= {-1, 0, 1})
                self.assertEqual(worth_of(digits), one - other)
            self.assertEqual(digits_of(2 ** many - 1, 0, many), [1] * many)
            self.assertEqual(digits_of(0, 2 ** many - 1, many), [-1] * many)

    def test_what_is_told_is_the_askers_own(self):
        digits = digits_of(5, 3, 3)
        digits[0] = 7
        digits.append(1)
        self.assertEqual(digits_of(5, 3, 3), [1, -1, 0])


class TestZeros(unittest.TestCase):
    def test_by_hand(self):
        for number, many, due in (
                (0, 0, 0), (0, 1, 1), (0, 80, 80), (1, 1, 0), (-1, 1, 0), (1, 4, 3), (-1, 4, 3), (8, 4, 0),
                (-8, 4, 0), (7, 4, 1), (-7, 4, 1), (2 ** 79, 80, 0), (1 - 2 ** 80, 80, 0), (1, 80, 79)):
            self.assertTrue(is_alike(zeros_of(number, many), due), (number, many))

    def test_all_of_few_bits(self):
        for many in range(9):
            for number in range(1 - 2 ** many, 2 ** many):
                self.assertTrue(is_alike(zeros_of(number, many), zeros_by_text(number, many)))


if __name__ == "__main__":
    unittest.main()
