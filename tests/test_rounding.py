import random
import unittest
from fractions import Fraction

from guessedzeros.errors import TooFew
from guessedzeros.forms import Form
from guessedzeros.rounding import cut_off, flags_together, last_power, rounded
from guessedzeros.ways import CUT, DOWN, FLAGS, NEAR, UP, WAYS
from tests.exact import Exact
from tests.things import ALL_FORMS, is_alike

FORM = Form(4, 3)       # bias 7: plain from 2 ** -6 to 15 * 2 ** 4, small from 2 ** -9
GREAT_FORMS = [Form(5, 10), Form(8, 7), Form(8, 23), Form(8, 24), Form(2, 24), Form(8, 1)]


def few(form, number, power):
    bias = 2 ** (form.scale - 1) - 1
    return number == 0 or power >= max(len(bin(number)) - 2 + power - 1 - form.tail, 1 - bias - form.tail)


class TestFlags(unittest.TestCase):
    def test_in_the_order_of_flags(self):
        self.assertTrue(is_alike(flags_together((), ()), ()))
        self.assertTrue(is_alike(flags_together(("rounded",), ("over",)), ("over", "rounded")))
        self.assertTrue(is_alike(flags_together(("under", "rounded"), ("rounded",)), ("under", "rounded")))
        self.assertTrue(is_alike(flags_together(("bynought",), ("bad",)), ("bad", "bynought")))

    def test_all_pairs_as_tuples_and_lists(self):
        sets = [tuple(flag for at, flag in enumerate(FLAGS) if many >> at & 1) for many in range(32)]
        for one in sets:
            for other in sets:
                due = tuple(flag for flag in FLAGS if flag in one + other)
                self.assertTrue(is_alike(flags_together(one, other), due))
                lists = list(one), list(other)
                self.assertTrue(is_alike(flags_together(*lists), due))
                self.assertEqual(lists, (list(one), list(other)))


class TestCutOff(unittest.TestCase):
    def test_by_hand(self):
        for number, by, due in (
                (0, 0, (0, False)), (0, 5, (0, False)), (13, 0, (13, False)), (13, 1, (6, True)),
                (12, 2, (3, False)), (13, 2, (3, True)), (8, 3, (1, False)), (8, 4, (0, True)),
                (1, 400, (0, True)), (0, 400, (0, False)), (2 ** 199, 199, (1, False)),
                (2 ** 200 - 1, 199, (1, True)), (2 ** 200 - 1, 400, (0, True))):
            self.assertTrue(is_alike(cut_off(number, by), due), (number, by))

    def test_all_of_few_bits(self):
        for number in range(300):
            for by in list(range(12)) + [399, 400, 401]:
                due = (number // 2 ** by, number % 2 ** by != 0)
                self.assertTrue(is_alike(cut_off(number, by), due))


class TestLastPower(unittest.TestCase):
    def test_by_hand(self):
        self.assertTrue(is_alike(last_power(FORM, 1, 0), -3))
        self.assertTrue(is_alike(last_power(FORM, 8, -3), -3))
        self.assertTrue(is_alike(last_power(FORM, 31, 0), 1))
        self.assertTrue(is_alike(last_power(FORM, 1, -5), -8))
        self.assertTrue(is_alike(last_power(FORM, 1, -6), -9))
        self.assertTrue(is_alike(last_power(FORM, 1, -7), -9))
        self.assertTrue(is_alike(last_power(FORM, 1, -400), -9))
        self.assertTrue(is_alike(last_power(FORM, 2 ** 200 - 1, 400), 596))

    def test_all_forms(self):
        for form in ALL_FORMS:
            bias = 2 ** (form.scale - 1) - 1
            for number in (1, 2, 3, 7, 8, 2 ** 24, 2 ** 25 - 1, 2 ** 199):
                for power in (-400, -200, -150, -20, -3, 0, 5, 400):
                    due = max(len(bin(number)) - 2 + power - 1 - form.tail, 1 - bias - form.tail)
                    self.assertEqual(last_power(form, number, power), due)


class TestByHand(unittest.TestCase):
    def holds(self, number, power, due, **told):
        """due: (size of the word, flags) of NEAR, CUT, UP, DOWN, sign 0; UP and DOWN are exchanged by sign 1."""
        for way, exchanged, (size, flags) in zip(WAYS, (NEAR, CUT, DOWN, UP), due):
            answer = rounded(FORM, 0, number, power, way=way, **told)
            self.assertTrue(is_alike(answer, (size, flags)), (number, power, way, answer))
            answer = rounded(FORM, 1, number, power, way=exchanged, **told)
            self.assertTrue(is_alike(answer, (128 + size, flags)), (number, power, way, answer))

    def test_told_as_they_are(self):
        for number, power, size in (
                (1, 0, 0b0111_000), (11, 0, 0b1010_011), (15, 4, 0b1110_111), (240, 0, 0b1110_111),
                (1, -6, 0b0001_000), (1, -9, 1), (7, -9, 7), (2 ** 100, -100, 0b0111_000),
                (2 ** 199, -205, 0b0001_000), (3 * 2 ** 150, -158, 0b0000_110)):
            self.holds(number, power, [(size, ())] * 4)

    def test_nought(self):
        for power in (-400, -1, 0, 1, 400):
            self.holds(0, power, [(0, ())] * 4)

    def test_ties_and_beside_them(self):
        flags = ("rounded",)
        low, high = (0b0111_000, flags), (0b0111_001, flags)
        self.holds(17, -4, [low, low, high, low])               # 1 + 1/16: to the even one, below
        self.holds(19, -4, [(0b0111_010, flags), high, (0b0111_010, flags), high])     # to the even one, above
        self.holds(33, -5, [low, low, high, low])               # 1 + 1/32
        self.holds(35, -5, [high, low, high, low])              # 1 + 3/32
        self.holds(2 * 17 * 2 ** 90 + 1, -95, [high, low, high, low])
        self.holds(2 * 17 * 2 ** 90 - 1, -95, [low, low, high, low])

    def test_into_the_next_scale(self):
        flags = ("rounded",)
        below, above = (0b0111_111, flags), (0b1000_000, flags)
        self.holds(31, -4, [above, below, above, below])        # 2 - 1/16
        self.holds(61, -5, [below, below, above, below])        # 2 - 3/32

    def test_near_least_plain(self):
        flags = ("under", "rounded")
        self.holds(15, -10, [(8, flags), (7, flags), (8, flags), (7, flags)])
        self.holds(29, -11, [(7, flags), (7, flags), (8, flags), (7, flags)])
        self.holds(17, -10, [(8, ("rounded",)), (8, ("rounded",)), (9, ("rounded",)), (8, ("rounded",))])
        self.holds(2 ** 40 - 1, -46, [(8, flags), (7, flags), (8, flags), (7, flags)])
        self.holds(7, -9, [(7, ())] * 4)

    def test_below_the_least(self):
        flags = ("under", "rounded")
        self.holds(1, -10, [(0, flags), (0, flags), (1, flags), (0, flags)])
        self.holds(3, -11, [(1, flags), (0, flags), (1, flags), (0, flags)])
        self.holds(1, -11, [(0, flags), (0, flags), (1, flags), (0, flags)])
        self.holds(3, -10, [(2, flags), (1, flags), (2, flags), (1, flags)])
        self.holds(1, -400, [(0, flags), (0, flags), (1, flags), (0, flags)])

    def test_near_and_beyond_greatest(self):
        over, greatest, endless = ("over", "rounded"), 0b1110_111, 0b1111_000
        beyond = [(endless, over), (greatest, over), (endless, over), (greatest, over)]
        self.holds(256, 0, beyond)
        self.holds(1, 8, beyond)
        self.holds(1, 400, beyond)
        self.holds(2 ** 200 - 1, 400, beyond)
        # Above greatest, but only as far as half of the last bit, or less far.
        self.holds(247, 0, [(greatest, ("rounded",)), (greatest, ("rounded",)),
                            (endless, over), (greatest, ("rounded",))])
        self.holds(248, 0, [(endless, over), (greatest, ("rounded",)), (endless, over), (greatest, ("rounded",))])
        self.holds(255, 0, [(endless, over), (greatest, ("rounded",)), (endless, over), (greatest, ("rounded",))])

    def test_more(self):
        flags = ("rounded",)
        low, high = (0b0111_000, flags), (0b0111_001, flags)
        self.holds(16, -4, [low, low, high, low], more=True)
        self.holds(17, -4, [high, low, high, low], more=True)
        self.holds(17, -4, [low, low, high, low], more=False)
        self.holds(16, -4, [(0b0111_000, ())] * 4, more=False)
        flags = ("under", "rounded")
        self.holds(15, -10, [(8, flags), (7, flags), (8, flags), (7, flags)], more=True)
        self.holds(1, -10, [(1, flags), (0, flags), (1, flags), (0, flags)], more=True)

    def test_left_out_and_by_name(self):
        self.assertEqual(rounded(FORM, 0, 19, -4), rounded(FORM, 0, 19, -4, way=NEAR, more=False))
        self.assertEqual(rounded(FORM, 0, 17, -4, more=True), rounded(FORM, 0, 17, -4, more=True, way=NEAR))
        self.assertEqual(rounded(FORM, 0, 17, -4, way=UP), rounded(FORM, 0, 17, -4, way=UP, more=False))
        self.assertNotEqual(rounded(FORM, 0, 17, -4), rounded(FORM, 0, 17, -4, more=True))
        with self.assertRaises(TypeError):
            rounded(FORM, 0, 17, -4, NEAR)


class TestTooFew(unittest.TestCase):
    def refused(self, form, sign, number, power, way):
        with self.assertRaises(TooFew) as told:
            rounded(form, sign, number, power, way=way, more=True)
        self.assertIs(type(told.exception), TooFew)
        self.assertTrue(is_alike(told.exception.what, power))

    def test_by_hand(self):
        for number, power in ((0, 0), (0, -400), (0, 400), (15, 0), (8, 3), (1, 0), (15, 4), (7, -9), (1, -9)):
            for way in WAYS:
                for sign in (0, 1):
                    self.refused(FORM, sign, number, power, way)
                    rounded(FORM, sign, number, power, way=way, more=False)
        for number, power in ((16, 0), (31, 4), (1, -10), (16, 400), (1, -400)):
            rounded(FORM, 0, number, power, more=True)

    def test_just_where_due(self):
        for form in (Form(2, 1), Form(3, 2), FORM):
            for number in range(64):
                for power in range(-40, 41):
                    if few(form, number, power):
                        self.refused(form, number % 2, number, power, WAYS[number % 4])
                    else:
                        rounded(form, number % 2, number, power, way=WAYS[number % 4], more=True)


class TestAgainstExact(unittest.TestCase):
    def holds(self, exact, form, number, power, more):
        size = (number + more) * Fraction(2) ** power
        for way in WAYS:
            for sign in (0, 1):
                told = rounded(form, sign, number, power, way=way, more=more > 0)
                due = exact.rounded(sign, size, way)
                if not is_alike(told, due):
                    self.fail((form, sign, number, power, way, more, told, due))

    def test_all_of_few_bits_at_all_powers(self):
        for form in (Form(2, 1), Form(3, 2), FORM):
            exact = Exact(form)
            for power in range(-400, 401):
                for number in range(2 ** (form.tail + 2) + 2):
                    self.holds(exact, form, number, power, 0)

    def test_all_of_more_bits_at_near_powers(self):
        for form in (Form(2, 1), Form(2, 3), Form(3, 2)):
            exact = Exact(form)
            for power in range(-20, 8):
                for number in range(128):
                    self.holds(exact, form, number, power, 0)
                    if not few(form, number, power):
                        for more in (Fraction(1, 1000), Fraction(1, 2), Fraction(999, 1000)):
                            self.holds(exact, form, number, power, more)

    def test_drawn_of_greater_forms(self):
        drawn = random.Random(7)
        for form in GREAT_FORMS:
            exact = Exact(form)
            bias = 2 ** (form.scale - 1) - 1
            for _ in range(150):
                bits = drawn.randrange(1, 201)
                number = drawn.getrandbits(bits) | 1 << (bits - 1)
                if drawn.random() < 0.5 and bits > form.tail + 3:
                    # A tie, or one beside it.
                    below = bits - form.tail - 2
                    number = (number >> below << below | 1 << below) + drawn.choice((-1, 0, 1))
                near = drawn.choice((-bias - form.tail, -bias, 0, bias, bias + 1)) - bits + drawn.randrange(-3, 4)
                power = max(-400, min(400, drawn.choice((near, drawn.randrange(-400, 401)))))
                self.holds(exact, form, number, power, 0)
                if not few(form, number, power):
                    self.holds(exact, form, number, power, Fraction(1, 3))


class TestOneBitIsEnough(unittest.TestCase):
    """What is cut off, and kept as one bit, changes no rounding."""

    def holds(self, form, number, power, by):
        kept, more = cut_off(number, by)
        if more and few(form, kept, power + by):
            return 0
        for way in WAYS:
            for sign in (0, 1):
                whole = rounded(form, sign, number, power, way=way)
                self.assertEqual(rounded(form, sign, kept, power + by, way=way, more=more), whole)
        return 1

    def test_all_of_few_bits(self):
        many = 0
        for form in (Form(2, 1), Form(3, 2)):
            for number in range(512):
                for power in (-14, -11, -8, -5, -2):
                    for by in range(9):
                        many += self.holds(form, number, power, by)
        self.assertGreater(many, 10000)

    def test_drawn(self):
        drawn = random.Random(8)
        many = 0
        for form in GREAT_FORMS:
            for _ in range(200):
                bits = drawn.randrange(1, 201)
                many += self.holds(form, drawn.getrandbits(bits), drawn.randrange(-300, 100), drawn.randrange(bits))
        self.assertGreater(many, 300)


if __name__ == "__main__":
    unittest.main()
