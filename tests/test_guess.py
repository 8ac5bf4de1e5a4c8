import itertools
import random
import unittest

from guessedzeros.digits import zeros_of
from guessedzeros.guess import guess, marks_of, mend
from tests.exact import guess_by_hand, marks_by_hand
from tests.things import is_alike


class TestMarks(unittest.TestCase):
    def test_by_hand(self):
        for digits, marks in (
                ([], []), ([0], [0]), ([1], [1]), ([-1], [1]), ([0, 0, 0], [0, 0, 0]),
                ([1, 0], [1, 0]), ([1, 1], [1, 1]), ([1, -1], [0, 1]), ([-1, 1], [0, 1]), ([-1, -1], [1, 1]),
                ([1, -1, -1], [0, 0, 1]), ([1, -1, 1], [0, 1, 1]), ([1, 1, 1], [1, 0, 1]),
                ([0, 1, -1, -1, 0], [0, 0, 0, 1, 0]), ([0, -1, 1, 1, -1], [0, 0, 0, 1, 1]),
                ([1, 0, -1, 1, 0], [1, 0, 0, 1, 0])):
            self.assertTrue(is_alike(marks_of(digits), marks), (digits, marks_of(digits)))
            self.assertTrue(is_alike(marks_of(tuple(digits)), marks))

    def test_all_of_few_digits(self):
        for many in range(8):
            for digits in itertools.product((-1, 0, 1), repeat=many):
                self.assertTrue(is_alike(marks_of(digits), marks_by_hand(digits)), digits)

    def test_what_is_handed_in_stays(self):
        digits = [0, 1, -1, -1, 0]
        marks = marks_of(digits)
        self.assertEqual(digits, [0, 1, -1, -1, 0])
        marks.clear()
        self.assertEqual(marks_of(digits), [0, 0, 0, 1, 0])


class TestGuess(unittest.TestCase):
    def holds(self, one, other, many):
        told, mended = guess(one, other, many), mend(one, other, many)
        self.assertTrue(is_alike(told, guess_by_hand(one, other, many)), (one, other, many))
        self.assertIs(type(mended), int)
        self.assertIn(mended, (0, 1), (one, other, many))
        self.assertEqual(told + mended, zeros_of(one - other, many))
        return mended

    def test_by_hand(self):
        for one, other, many, due in (
                (0, 0, 0, (0, 0)), (0, 0, 1, (1, 0)), (5, 5, 80, (80, 0)), (1, 0, 1, (0, 0)), (0, 1, 1, (0, 0)),
                (8, 7, 4, (3, 0)), (8, 1, 4, (0, 1)), (1, 8, 4, (0, 1)), (4, 1, 4, (1, 1)), (9, 0, 4, (0, 0)),
                (2 ** 79, 2 ** 79 - 1, 80, (79, 0)), (2 ** 79, 1, 80, (0, 1))):
            self.assertTrue(is_alike((guess(one, other, many), mend(one, other, many)), due), (one, other, many))

    def test_all_pairs_of_few_bits(self):
        for many in range(8):
            mends = {self.holds(one, other, many) for one in range(2 ** many) for other in range(2 ** many)}
            self.assertEqual(mends, {0, 1} if many > 2 else {0})

    def test_drawn_great_ones(self):
        drawn = random.Random(31)
        mends = []
        for many in (16, 53, 64, 80):
            for _ in range(400):
                one = drawn.getrandbits(many)
                near = one ^ drawn.getrandbits(drawn.randrange(1, many + 1))
                for other in (drawn.getrandbits(many), near, min(one + drawn.randrange(9), 2 ** many - 1)):
                    mends.append(self.holds(one, other, many))
                    mends.append(self.holds(other, one, many))
        self.assertGreater(mends.count(0), 500)
        self.assertGreater(mends.count(1), 500)


if __name__ == "__main__":
    unittest.main()
