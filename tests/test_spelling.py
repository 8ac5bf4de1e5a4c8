import itertools
import unittest
from fractions import Fraction

from guessedzeros.errors import BadText
from guessedzeros.forms import Form
from guessedzeros.spelling import compared, spelled, word_in, worth_text
from tests.things import ALL_FORMS, SMALL_FORMS, all_words, is_alike


class TestSpelled(unittest.TestCase):
    def test_by_hand(self):
        form = Form(4, 3)
        self.assertEqual(spelled(form, 0b0_1010_011), "0 1010 011")
        self.assertEqual(spelled(form, 0), "0 0000 000")
        self.assertEqual(spelled(form, 255), "1 1111 111")
        self.assertEqual(spelled(Form(2, 1), 0b1_01_0), "1 01 0")

    def test_there_and_back(self):
        for form in SMALL_FORMS:
            for word in all_words(form):
                text = spelled(form, word)
                bits = bin(word)[2:].rjust(1 + form.scale + form.tail, "0")
                self.assertEqual(text, f"{bits[0]} {bits[1:1 + form.scale]} {bits[1 + form.scale:]}")
                self.assertTrue(is_alike(word_in(form, text), word))

    def test_edges_of_all_forms(self):
        for form in ALL_FORMS:
            for word in (0, 1, form.endless(), form.greatest(1), form.least_plain(), 2 ** form.width() - 1):
                self.assertEqual(word_in(form, spelled(form, word)), word)


class TestWordIn(unittest.TestCase):
    def refused(self, form, text):
        with self.assertRaises(BadText, msg=repr(text)) as told:
            word_in(form, text)
        self.assertIs(type(told.exception), BadText)
        self.assertTrue(is_alike(told.exception.what, text))

    def test_texts_of_no_word(self):
        for text in (
                "", " ", "  ", "   ", "0", "01010011", "0 1010 01", "0 1010 0111", "0 101 0011", "0 10100 11",
                "00 1010 011", " 1010 011", "0  011", "0 1010 ", "0 1010", "0 1010 011 ", " 0 1010 011",
                "0  1010 011", "0 1010  011", "0 1010 011\n", "\n0 1010 011", "0\t1010\t011", "0\n1010 011",
                "0\u00a01010 011", "0 1010\u2003011", "0 1010 01\u0661", "\u0660 1010 011", "0 1010 01\uff11",
                "0 1010 01\u00b9", "- 1010 011", "+ 1010 011", "0 +010 011", "0 -010 011", "0 1_10 011",
                "0 0b10 011", "0 1010 0 1", "0 10 0 011", "0 1010 012", "2 1010 011", "0 1o10 011", "none",
                "endless", "-0", "0 1010 011 0", "0 1010\u0000011", "0,1010,011", "0x1010x011", "0 1010 0\ud80011"):
            self.refused(Form(4, 3), text)

    def test_other_forms_texts(self):
        self.refused(Form(3, 4), "0 1010 011")
        self.refused(Form(4, 4), "0 1010 011")
        self.refused(Form(3, 3), "0 1010 011")
        self.refused(Form(4, 3), "0 101 0011")

    def test_all_short_texts(self):
        form = Form(2, 1)
        known = {spelled(form, word): word for word in all_words(form)}
        for many in range(8):
            for signs in itertools.product("01 +", repeat=many):
                text = "".join(signs)
                if text in known:
                    self.assertEqual(word_in(form, text), known.pop(text))
                else:
                    self.refused(form, text)
        self.assertEqual(known, {})

    def test_one_sign_put_in_left_out_or_exchanged(self):
        for form in (Form(2, 1), Form(4, 3), Form(3, 2)):
            known = {spelled(form, word): word for word in all_words(form)}
            for text in list(known)[::7]:
                near = []
                for place in range(len(text) + 1):
                    near.append(text[:place] + text[place + 1:])
                    for sign in "01 2.-_\t\n":
                        near.append(text[:place] + sign + text[place:])
                        near.append(text[:place] + sign + text[place + 1:])
                for other in near:
                    if other in known:
                        self.assertEqual(word_in(form, other), known[other])
                    else:
                        self.refused(form, other)


class TestWorthText(unittest.TestCase):
    def test_by_hand(self):
        form = Form(4, 3)
        texts = {
            0b0_0000_000: "0", 0b1_0000_000: "-0",
            0b0_1111_000: "endless", 0b1_1111_000: "-endless",
            0b0_1111_100: "none", 0b1_1111_100: "none", 0b1_1111_001: "none", 0b0_1111_111: "none",
            0b0_0000_001: "1*2^-9", 0b1_0000_110: "-3*2^-8", 0b0_0000_100: "1*2^-7",
            0b0_0001_000: "1*2^-6", 0b0_0111_000: "1*2^0", 0b1_0111_000: "-1*2^0",
            0b0_0111_100: "3*2^-1", 0b1_0100_100: "-3*2^-4", 0b0_1110_111: "15*2^4", 0b1_1000_000: "-1*2^1",
            0b0_1010_000: "1*2^3",
        }
        for word, text in texts.items():
            self.assertEqual(worth_text(form, word), text)

    def test_all_words_of_small_forms(self):
        for form in SMALL_FORMS:
            for word in all_words(form):
                text = worth_text(form, word)
                if form.sort_of(word) not in ("small", "plain"):
                    self.assertIn(text, ("none", "endless", "-endless", "0", "-0"))
                    continue
                number, power = text.split("*2^")
                self.assertEqual(int(number) % 2, 1)
                self.assertEqual(text, f"{int(number)}*2^{int(power)}")
                head, scale = form.worth(word)
                self.assertEqual(int(number) * Fraction(2) ** int(power), head * Fraction(2) ** scale)


class TestCompared(unittest.TestCase):
    def size(self, form, word):
        sort = form.sort_of(word)
        if sort == "endless":
            return Fraction(10 ** 90) * (-1 if form.parts(word)[0] else 1)
        number, power = form.worth(word)
        return number * Fraction(2) ** power

    def test_by_hand(self):
        form = Form(4, 3)
        none, one, small = form.none_word(), 0b0_0111_000, 0b0_0000_001
        for word in (0, 1, one, none, form.turned(none), form.endless(), form.endless(1), 0b0_1111_001):
            self.assertEqual(compared(form, none, word), "none")
            self.assertEqual(compared(form, word, none), "none")
        self.assertEqual(compared(form, form.nought(), form.nought(1)), "same")
        self.assertEqual(compared(form, form.nought(1), form.nought()), "same")
        self.assertEqual(compared(form, form.nought(1), form.turned(small)), "more")
        self.assertEqual(compared(form, form.nought(1), small), "less")
        self.assertEqual(compared(form, one, form.turned(one)), "more")
        self.assertEqual(compared(form, form.turned(one), one), "less")
        self.assertEqual(compared(form, form.endless(), form.greatest()), "more")
        self.assertEqual(compared(form, form.endless(1), form.greatest(1)), "less")
        self.assertEqual(compared(form, form.endless(1), form.endless()), "less")
        self.assertEqual(compared(form, form.endless(), form.endless()), "same")
        self.assertEqual(compared(form, form.endless(1), form.endless(1)), "same")

    def test_all_pairs_of_small_forms(self):
        for form in SMALL_FORMS:
            sizes = {word: self.size(form, word) for word in all_words(form) if form.sort_of(word) != "none"}
            for a in all_words(form):
                for b in all_words(form):
                    if a not in sizes or b not in sizes:
                        due = "none"
                    elif sizes[a] == sizes[b]:
                        due = "same"
                    else:
                        due = "less" if sizes[a] < sizes[b] else "more"
                    self.assertEqual(compared(form, a, b), due)


if __name__ == "__main__":
    unittest.main()
