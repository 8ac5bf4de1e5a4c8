import unittest
from fractions import Fraction

from guessedzeros.errors import BadForm
from guessedzeros.forms import Form
from tests.things import ALL_FORMS, OTHER_KINDS, SMALL_FORMS, all_words, is_alike


def by_hand(form, word):
    """Sign, scale, tail of a word, read off its bits as a text."""
    text = bin(word)[2:].rjust(1 + form.scale + form.tail, "0")
    return int(text[0], 2), int(text[1:1 + form.scale], 2), int(text[1 + form.scale:], 2)


class TestMaking(unittest.TestCase):
    def refused(self, scale, tail):
        with self.assertRaises(BadForm) as told:
            Form(scale, tail)
        self.assertIs(type(told.exception), BadForm)
        return told.exception.what

    def test_all_within_the_bounds(self):
        self.assertEqual(len(ALL_FORMS), 7 * 24)
        for form in ALL_FORMS:
            self.assertEqual(vars(form), {"scale": form.scale, "tail": form.tail})
        form = Form(4, 3)
        self.assertTrue(is_alike((form.scale, form.tail), (4, 3)))

    def test_the_bounds_themselves(self):
        for scale, tail in ((2, 1), (2, 24), (8, 1), (8, 24)):
            form = Form(scale, tail)
            self.assertEqual((form.scale, form.tail), (scale, tail))

    def test_scale_beyond(self):
        for scale in (1, 0, -1, -2, 9, 10, 64, 10 ** 30, -10 ** 30, True, False, None, "", "4", "scale"):
            for tail in (1, 3, 24):
                with self.subTest(scale=scale, tail=tail):
                    self.assertEqual(self.refused(scale, tail), "scale")

    def test_tail_beyond(self):
        for tail in (0, -1, 25, 26, 10 ** 30, -10 ** 30, True, False, None, "", "3", "tail"):
            for scale in (2, 4, 8):
                with self.subTest(scale=scale, tail=tail):
                    self.assertEqual(self.refused(scale, tail), "tail")

    def test_scale_is_told_first(self):
        for scale in (1, 9, True, None, "4"):
            for tail in (0, 25, True, None, "3"):
                self.assertEqual(self.refused(scale, tail), "scale")


class TestSizes(unittest.TestCase):
    def test_by_hand(self):
        form = Form(4, 3)
        self.assertTrue(is_alike((form.width(), form.bias(), form.top()), (8, 7, 15)))
        form = Form(8, 23)
        self.assertTrue(is_alike((form.width(), form.bias(), form.top()), (32, 127, 255)))
        form = Form(2, 1)
        self.assertTrue(is_alike((form.width(), form.bias(), form.top()), (4, 1, 3)))

    def test_all_forms(self):
        for form in ALL_FORMS:
            self.assertEqual(form.width(), 1 + form.scale + form.tail)
            self.assertEqual(form.bias(), 2 ** (form.scale - 1) - 1)
            self.assertEqual(form.top(), 2 ** form.scale - 1)


class TestParts(unittest.TestCase):
    def test_by_hand(self):
        form = Form(4, 3)
        self.assertTrue(is_alike(form.parts(0b0_1010_011), (0, 10, 3)))
        self.assertTrue(is_alike(form.parts(0b1_0000_001), (1, 0, 1)))
        self.assertTrue(is_alike(form.parts(0b1_1111_111), (1, 15, 7)))
        self.assertTrue(is_alike(form.word_of(0, 10, 3), 0b0_1010_011))
        self.assertTrue(is_alike(form.word_of(1, 15, 0), 0b1_1111_000))

    def test_all_words_of_small_forms(self):
        for form in SMALL_FORMS:
            for word in all_words(form):
                told = form.parts(word)
                self.assertTrue(is_alike(told, by_hand(form, word)), (form, word, told))
                self.assertTrue(is_alike(form.word_of(*told), word))

    def test_edges_of_all_forms(self):
        for form in ALL_FORMS:
            for sign in (0, 1):
                for scale in (0, 1, form.top() - 1, form.top()):
                    for tail in (0, 1, 2 ** form.tail - 1):
                        word = form.word_of(sign, scale, tail)
                        self.assertEqual(by_hand(form, word), (sign, scale, tail))
                        self.assertEqual(form.parts(word), (sign, scale, tail))


class TestIsWord(unittest.TestCase):
    def test_numbers(self):
        for form in ALL_FORMS:
            many = 2 ** (1 + form.scale + form.tail)
            for number in (0, 1, 2, many // 2, many - 1):
                self.assertIs(form.is_word(number), True)
            for number in (-1, -2, -many, many, many + 1, 2 * many, 10 ** 40):
                self.assertIs(form.is_word(number), False)

    def test_other_kinds(self):
        for form in SMALL_FORMS:
            for thing in OTHER_KINDS:
                self.assertIs(form.is_word(thing), False, thing)

    def test_changes_nothing(self):
        thing = [1, [2, (3,)]]
        Form(4, 3).is_word(thing)
        self.assertTrue(is_alike(thing, [1, [2, (3,)]]))


class TestSorts(unittest.TestCase):
    def test_by_hand(self):
        form = Form(4, 3)
        sorts = {
            0b0_0000_000: "nought", 0b1_0000_000: "nought",
            0b0_0000_001: "small", 0b1_0000_111: "small",
            0b0_0001_000: "plain", 0b1_1110_111: "plain", 0b0_0111_000: "plain",
            0b0_1111_000: "endless", 0b1_1111_000: "endless",
            0b0_1111_001: "none", 0b1_1111_100: "none", 0b0_1111_111: "none",
        }
        for word, sort in sorts.items():
            self.assertEqual(form.sort_of(word), sort)

    def test_all_words_of_small_forms(self):
        for form in SMALL_FORMS:
            many = {"nought": 0, "small": 0, "plain": 0, "endless": 0, "none": 0}
            for word in all_words(form):
                sign, scale, tail = by_hand(form, word)
                least, last = scale == 0, scale == 2 ** form.scale - 1
                sort = form.sort_of(word)
                many[sort] += 1
                self.assertEqual(sort in ("nought", "small"), least)
                self.assertEqual(sort in ("endless", "none"), last)
                self.assertEqual(sort in ("nought", "endless"), tail == 0 and (least or last))
            tails = 2 ** form.tail
            self.assertEqual(many, {
                "nought": 2, "small": 2 * (tails - 1), "plain": 2 * tails * (2 ** form.scale - 2),
                "endless": 2, "none": 2 * (tails - 1)})


class TestNamedWords(unittest.TestCase):
    def test_by_hand(self):
        form = Form(4, 3)
        self.assertTrue(is_alike(form.nought(), 0))
        self.assertTrue(is_alike(form.endless(), 0b0_1111_000))
        self.assertTrue(is_alike(form.greatest(), 0b0_1110_111))
        self.assertTrue(is_alike(form.least_plain(), 0b0_0001_000))
        self.assertTrue(is_alike(form.none_word(), 0b0_1111_100))
        self.assertEqual(Form(2, 1).none_word(), 0b0_11_1)

    def test_signs_by_place_by_name_and_left_out(self):
        for form in ALL_FORMS:
            sign_bit = 2 ** (form.scale + form.tail)
            for named in (form.nought, form.endless, form.greatest, form.least_plain):
                self.assertTrue(is_alike(named(0), named()))
                self.assertTrue(is_alike(named(sign=0), named()))
                self.assertTrue(is_alike(named(1), named() + sign_bit))
                self.assertTrue(is_alike(named(sign=1), named() + sign_bit))

    def test_parts_of_all_forms(self):
        for form in ALL_FORMS:
            top, tails = 2 ** form.scale - 1, 2 ** form.tail
            for sign in (0, 1):
                self.assertEqual(by_hand(form, form.nought(sign)), (sign, 0, 0))
                self.assertEqual(by_hand(form, form.endless(sign)), (sign, top, 0))
                self.assertEqual(by_hand(form, form.greatest(sign)), (sign, top - 1, tails - 1))
                self.assertEqual(by_hand(form, form.least_plain(sign)), (sign, 1, 0))
            self.assertEqual(by_hand(form, form.none_word()), (0, top, tails // 2))

    def test_turned(self):
        for form in SMALL_FORMS:
            for word in all_words(form):
                sign, scale, tail = by_hand(form, word)
                told = form.turned(word)
                self.assertTrue(is_alike(by_hand(form, told), (1 - sign, scale, tail)))
                self.assertTrue(is_alike(form.turned(told), word))


class TestWorth(unittest.TestCase):
    def test_by_hand(self):
        form = Form(4, 3)
        worths = {
            0b0_0000_000: (0, -9), 0b1_0000_000: (0, -9),
            0b0_0000_001: (1, -9), 0b1_0000_111: (-7, -9),
            0b0_0001_000: (8, -9), 0b1_0001_001: (-9, -9), 0b0_0010_000: (8, -8),
            0b0_0111_000: (8, -3), 0b1_0111_100: (-12, -3), 0b0_1110_111: (15, 4),
            0b0_1111_000: None, 0b1_1111_000: None, 0b0_1111_100: None, 0b1_1111_001: None,
        }
        for word, worth in worths.items():
            self.assertTrue(is_alike(form.worth(word), worth), (word, form.worth(word)))

    def test_all_words_of_small_forms(self):
        for form in SMALL_FORMS:
            bias = 2 ** (form.scale - 1) - 1
            for word in all_words(form):
                sign, scale, tail = by_hand(form, word)
                told = form.worth(word)
                if scale == 2 ** form.scale - 1:
                    self.assertIsNone(told)
                    continue
                head = Fraction(tail, 2 ** form.tail) + (1 if scale else 0)
                worth = (-1) ** sign * head * Fraction(2) ** (max(scale, 1) - bias)
                number, power = told
                self.assertIs(type(number), int)
                self.assertEqual(number * Fraction(2) ** power, worth)
                self.assertEqual(power, max(scale, 1) - bias - form.tail)


class TestEquality(unittest.TestCase):
    def test_forms(self):
        for one in ALL_FORMS:
            for other in ALL_FORMS:
                alike = (one.scale, one.tail) == (other.scale, other.tail)
                self.assertIs(one == Form(other.scale, other.tail), alike)
                self.assertIs(one != Form(other.scale, other.tail), not alike)

    def test_other_kinds_either_way_about(self):
        form = Form(4, 3)
        for thing in OTHER_KINDS + [4, 3, 0, 4.3, (4, 3), [4, 3], "4.3", "Form(4, 3)", b"4.3", {}, object(), Form]:
            self.assertIs(form == thing, False)
            self.assertIs(thing == form, False)
            self.assertIs(form != thing, True)
            self.assertIs(thing != form, True)

    def test_in_a_list(self):
        things = [1, "4.3", None, Form(4, 4), Form(4, 3)]
        self.assertIn(Form(4, 3), things)
        self.assertEqual(things.index(Form(4, 3)), 4)
        self.assertNotIn(Form(3, 4), things)
        self.assertEqual(things.count(Form(4, 4)), 1)
        self.assertEqual([Form(2, 1), (Form(3, 2),)], [Form(2, 1), (Form(3, 2),)])

    def test_texts(self):
        self.assertEqual(str(Form(4, 3)), "4.3")
        self.assertEqual(repr(Form(4, 3)), "Form(4, 3)")
        for form in ALL_FORMS:
            self.assertEqual(str(form), "%d.%d" % (form.scale, form.tail))
            self.assertEqual(repr(form), "Form(%d, %d)" % (form.scale, form.tail))


if __name__ == "__main__":
    unittest.main()
