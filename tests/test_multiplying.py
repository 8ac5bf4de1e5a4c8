import random
import unittest

from guessedzeros.forms import Form
from guessedzeros.multiplying import fours_of, levels_of, rows_of, saved, times_steps
from guessedzeros.plain import multiplied
from guessedzeros.spelling import word_in
from guessedzeros.ways import CUT, DOWN, NEAR, UP, WAYS
from tests.exact import Exact
from tests.things import GREAT_FORMS, all_words, drawn_words, is_alike

FORM = Form(4, 3)
FORMS = (Form(2, 1), Form(2, 2), Form(3, 1), Form(3, 2), Form(2, 3))


def fours_by_hand(number):
    """Read off the figures, three by three: above, at and below each place."""
    many = number.bit_length() // 2 + 1
    figures = bin(number)[2:].zfill(2 * many) + "0"
    worths = {"000": 0, "001": 1, "010": 1, "011": 2, "100": -2, "101": -1, "110": -1, "111": 0}
    return [worths[figures[2 * at:2 * at + 3]] for at in range(many)]


def levels_by_hand(rows):
    levels = [list(rows)]
    while len(levels[-1]) > 2:
        left, level = list(levels[-1]), []
        while len(left) > 2:
            x, y, z = left.pop(0), left.pop(0), left.pop(0)
            # Bit by bit in as many bits as the greatest has, by the sum of the three; the signs stand at the end.
            bits = max(one.bit_length() for one in (x, y, z)) + 1
            counts = [sum(one >> at & 1 for one in (x, y, z)) for at in range(bits)]
            signs = sum(one < 0 for one in (x, y, z))
            odd = sum(2 ** at for at, count in enumerate(counts) if count % 2) - (signs % 2) * 2 ** bits
            two = sum(2 ** at for at, count in enumerate(counts) if count > 1) - (signs > 1) * 2 ** bits
            level += [odd, 2 * two]
        levels.append(level + left)
    return levels


def steps_due(exact, a, b, way):
    word, flags = exact.done("times", [a, b], way)
    if not (exact.is_number(a) and exact.is_number(b)):
        return [("told", word, flags)]
    one, number = exact.head(a)[1], exact.head(b)[1]
    fours = fours_by_hand(number)
    rows = [four * one * 4 ** (len(fours) - 1 - at) for at, four in enumerate(fours)]
    levels = levels_by_hand(rows)
    pair = (levels[-1] + [0])[:2]
    return [("fours", fours), ("levels", len(levels)), ("pair", *pair), ("product", one * number),
            ("round", word, flags)]


class TestFours(unittest.TestCase):
    def holds(self, number):
        told = fours_of(number)
        self.assertTrue(is_alike(told, fours_by_hand(number)), (number, told))
        self.assertEqual(len(told), number.bit_length() // 2 + 1)
        self.assertEqual(sum(four * 4 ** at for at, four in enumerate(reversed(told))), number)
        self.assertTrue(all(-2 <= four <= 2 for four in told))

    def test_by_hand(self):
        for number, due in ((0, [0]), (1, [1]), (2, [1, -2]), (3, [1, -1]), (4, [1, 0]), (5, [1, 1]),
                            (6, [2, -2]), (7, [2, -1]), (8, [1, -2, 0]), (15, [1, 0, -1]), (27, [2, -1, -1])):
            self.assertTrue(is_alike(fours_of(number), due), (number, fours_of(number)))

    def test_all_of_few_bits(self):
        for number in range(2 ** 11):
            self.holds(number)

    def test_drawn_great_ones(self):
        drawn = random.Random(131)
        for bits in [*range(12, 60), 100, 199, 200]:
            for _ in range(8):
                self.holds(2 ** (bits - 1) + drawn.getrandbits(bits - 1))
            self.holds(2 ** bits - 1)
            self.holds(2 ** (bits - 1))

    def test_own_lists(self):
        told = fours_of(7)
        told.append(9)
        self.assertEqual(fours_of(7), [2, -1])


class TestRows(unittest.TestCase):
    def test_by_hand(self):
        self.assertTrue(is_alike(rows_of(5, 7), [40, -5]))
        self.assertTrue(is_alike(rows_of(0, 7), [0, 0]))
        self.assertTrue(is_alike(rows_of(5, 0), [0]))
        self.assertTrue(is_alike(rows_of(1, 27), [32, -4, -1]))

    def test_they_come_to_the_product(self):
        drawn = random.Random(132)
        pairs = [(one, number) for one in range(40) for number in range(130)]
        pairs += [(drawn.getrandbits(drawn.randrange(1, 100)), drawn.getrandbits(drawn.randrange(1, 100)))
                  for _ in range(400)]
        for one, number in pairs:
            rows = rows_of(one, number)
            fours = fours_by_hand(number)
            due = [four * one * 4 ** (len(fours) - 1 - at) for at, four in enumerate(fours)]
            self.assertTrue(is_alike(rows, due), (one, number, rows))
            self.assertEqual(sum(rows), one * number)


class TestSaved(unittest.TestCase):
    def test_by_hand(self):
        self.assertTrue(is_alike(saved(1, 1, 0), (0, 2)))
        self.assertTrue(is_alike(saved(7, 5, 3), (1, 14)))
        self.assertTrue(is_alike(saved(0, 0, 0), (0, 0)))
        self.assertTrue(is_alike(saved(-1, 1, 0), (-2, 2)))
        self.assertTrue(is_alike(saved(-1, -1, -1), (-1, -2)))

    def test_both_come_to_the_sum(self):
        threes = [(x, y, z) for x in range(-9, 10) for y in range(-9, 10) for z in range(-9, 10)]
        drawn = random.Random(133)
        threes += [tuple(drawn.getrandbits(90) - 2 ** 89 for _ in range(3)) for _ in range(300)]
        for x, y, z in threes:
            one, other = saved(x, y, z)
            self.assertEqual(one + other, x + y + z)
            self.assertEqual(one, x ^ y ^ z)
            self.assertTrue(is_alike([[x, y, z], [one, other]], levels_by_hand([x, y, z])), (x, y, z))


class TestLevels(unittest.TestCase):
    def test_by_hand(self):
        self.assertTrue(is_alike(levels_of([]), [[]]))
        self.assertTrue(is_alike(levels_of([5]), [[5]]))
        self.assertTrue(is_alike(levels_of([5, -6]), [[5, -6]]))
        self.assertTrue(is_alike(levels_of([7, 5, 3]), [[7, 5, 3], [1, 14]]))
        # Those left over stand behind, and come in on the next level.
        self.assertTrue(is_alike(levels_of([7, 5, 3, 4]), [[7, 5, 3, 4], [1, 14, 4], [11, 8]]))
        told = levels_of([1, 2, 4, 1, 1, 1, 9, 10])
        self.assertTrue(is_alike(told[:2], [[1, 2, 4, 1, 1, 1, 9, 10], [7, 0, 1, 2, 9, 10]]))
        self.assertEqual([len(level) for level in told], [8, 6, 4, 3, 2])

    def test_each_level_comes_to_the_same(self):
        drawn = random.Random(134)
        for many in list(range(30)) + [50, 101]:
            for _ in range(6):
                rows = [drawn.getrandbits(60) - drawn.choice((0, 2 ** 59)) for _ in range(many)]
                handed = list(rows)
                levels = levels_of(handed)
                self.assertTrue(is_alike(levels, levels_by_hand(rows)), rows)
                self.assertTrue(is_alike(levels_of(tuple(rows)), levels))
                self.assertEqual({sum(level) for level in levels}, {sum(rows)})
                self.assertLessEqual(len(levels[-1]), 2)
                self.assertTrue(all(len(level) > 2 for level in levels[:-1]))
                self.assertEqual(handed, rows)

    def test_own_lists(self):
        for rows in ([], [5], [5, 6], [7, 5, 3, 4]):
            handed = list(rows)
            levels = levels_of(handed)
            for level in levels:
                level.append(99)
            self.assertEqual(handed, rows)
            self.assertEqual(levels_of(handed), levels_by_hand(rows))


class TestTimesByHand(unittest.TestCase):
    def told(self, one, other, *steps, way=NEAR):
        told = times_steps(FORM, word_in(FORM, one), word_in(FORM, other), way=way)
        self.assertTrue(is_alike(told, list(steps)), told)

    def test_plain_and_small(self):
        # 9/8 by 11/8 is 99/64.
        for way, word in ((NEAR, 60), (CUT, 60), (UP, 61), (DOWN, 60)):
            self.told("0 0111 001", "0 0111 011", ("fours", [1, -1, -1]), ("levels", 2), ("pair", 187, -88),
                      ("product", 99), ("round", word, ("rounded",)), way=way)
        # Signs unlike; b's head is 1, so there is one row.
        self.told("0 1000 010", "1 0000 001", ("fours", [1]), ("levels", 1), ("pair", 10, 0), ("product", 10),
                  ("round", 130, ("under", "rounded")))
        self.told("1 0111 000", "1 1000 000", ("fours", [1, -2, 0]), ("levels", 2), ("pair", -192, 256),
                  ("product", 64), ("round", 64, ()))
        # The fours are those of b, not of a.
        self.told("0 0000 001", "0 1000 010", ("fours", [1, -1, -2]), ("levels", 2), ("pair", 18, -8),
                  ("product", 10), ("round", 2, ("under", "rounded")))

    def test_beyond(self):
        for way, word in ((NEAR, 248), (CUT, 247), (UP, 247), (DOWN, 248)):
            self.told("0 1110 111", "1 1110 111", ("fours", [1, 0, -1]), ("levels", 2), ("pair", -255, 480),
                      ("product", 225), ("round", word, ("over", "rounded")), way=way)

    def test_told_at_once(self):
        self.told("0 0000 000", "1 0111 000", ("told", 128, ()))
        self.told("1 0111 000", "1 0000 000", ("told", 0, ()))
        self.told("1 1111 000", "0 0000 001", ("told", 248, ()))
        self.told("1 0000 000", "0 1111 000", ("told", 124, ("bad",)))
        self.told("1 1111 001", "0 1111 000", ("told", 124, ()))
        self.told("0 0111 000", "0 1111 100", ("told", 124, ()))


class TestTimes(unittest.TestCase):
    def holds(self, exact, form, a, b, way):
        told = times_steps(form, a, b, way=way)
        if not is_alike(told, steps_due(exact, a, b, way)):
            self.fail((form, a, b, way, told))
        if not is_alike(told[-1][1:], multiplied(form, a, b, way=way)):
            self.fail((form, a, b, way, told))

    def test_all_pairs(self):
        for form in FORMS:
            exact = Exact(form)
            for a in all_words(form):
                for b in all_words(form):
                    for way in WAYS:
                        self.holds(exact, form, a, b, way)

    def test_drawn_of_great_forms(self):
        drawn = random.Random(135)
        for form in GREAT_FORMS:
            exact = Exact(form)
            for _ in range(150):
                a, b = drawn_words(drawn, form, 2)
                for way in WAYS:
                    self.holds(exact, form, a, b, way)

    def test_way_left_out(self):
        form = Form(2, 2)
        for a in all_words(form):
            for b in all_words(form):
                self.assertEqual(times_steps(form, a, b), times_steps(form, a, b, way=NEAR))
        with self.assertRaises(TypeError):
            times_steps(form, 1, 2, NEAR)

    def test_own_lists(self):
        steps = times_steps(FORM, 57, 59)
        steps[0][1].append(5)
        steps.pop()
        self.assertTrue(is_alike(times_steps(FORM, 57, 59), steps_due(Exact(FORM), 57, 59, "near")))


if __name__ == "__main__":
    unittest.main()
