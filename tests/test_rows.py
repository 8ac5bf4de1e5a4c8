import re
import unittest

from guessedzeros.errors import BadRow
from guessedzeros.forms import Form
from guessedzeros.rows import row_in
from tests.things import is_alike

FORM = Form(4, 3)
STAGES = ["read", "first", "second", "last"]
ROWS = {
    "put 0 01010011": ("put", 0, 83), "put 7 11111111": ("put", 7, 255), "put 3 00000000": ("put", 3, 0),
    "add 0 1 2 near": ("add", 0, 1, 2, "near"), "take 7 7 7 cut": ("take", 7, 7, 7, "cut"),
    "times 3 0 6 up": ("times", 3, 0, 6, "up"), "over 5 4 4 down": ("over", 5, 4, 4, "down"),
    "join 0 1 2 3 near": ("join", 0, 1, 2, 3, "near"), "join 7 6 5 4 down": ("join", 7, 6, 5, 4, "down"),
    "tick 3": ("tick", 3, ()), "tick 900": ("tick", 900, ()), "tick 1 last": ("tick", 1, ("last",)),
    "tick 12 second read": ("tick", 12, ("second", "read")),
    "tick 1 last second first read": ("tick", 1, ("last", "second", "first", "read")),
    "empty 1": ("empty", 1), "empty 900": ("empty", 900), "empty 99": ("empty", 99),
    "cell 0": ("cell", 0), "cell 7": ("cell", 7), "whole 0": ("whole", 0), "whole 7": ("whole", 7),
    "flags": ("flags",), "inside": ("inside",), "ticks": ("ticks",),
    "again 1": ("again", 1), "again 900": ("again", 900), "again 10": ("again", 10),
}
SIGNS = " 0128naLl-+_\t~."


def due_of(form, text):
    """What is due of a text, read by patterns; None of one that is to be refused."""
    way, cell, many = "(near|cut|up|down)", "([0-7])", "([1-9][0-9]{0,2})"
    word = "([01]{%d})" % (1 + form.scale + form.tail)
    found = re.fullmatch(f"(put) {cell} {word}", text)
    if found:
        return "put", int(found[2]), int(found[3], 2)
    found = re.fullmatch(f"(add|take|times|over) {cell} {cell} {cell} {way}", text) or re.fullmatch(
        f"(join) {cell} {cell} {cell} {cell} {way}", text)
    if found:
        name, *cells, last = found.groups()
        return name, *map(int, cells), last
    found = re.fullmatch(f"(cell|whole) {cell}", text) or re.fullmatch(f"(empty|again) {many}", text)
    if found and int(found[2]) <= 900:
        return found[1], int(found[2])
    found = re.fullmatch(f"(tick) {many}((?: (?:read|first|second|last))*)", text)
    if found and int(found[2]) <= 900:
        stages = found[3].split()
        return ("tick", int(found[2]), tuple(stages)) if len(stages) == len(set(stages)) else None
    return (text,) if text in ("flags", "inside", "ticks") else None


class TestRowIn(unittest.TestCase):
    def check(self, text, form=FORM):
        due = due_of(form, text)
        if due is not None:
            self.assertTrue(is_alike(row_in(form, text), due), text)
            return True
        with self.assertRaises(BadRow) as refused:
            row_in(form, text)
        self.assertIs(type(refused.exception), BadRow)
        self.assertTrue(is_alike(refused.exception.what, text))
        return False

    def test_each_kind(self):
        for text, due in ROWS.items():
            self.assertTrue(is_alike(row_in(FORM, text), due), text)
            self.assertTrue(self.check(text))

    def test_one_sign_otherwise(self):
        for text in ROWS:
            for at in range(len(text) + 1):
                self.check(text[:at] + text[at + 1:])
                for sign in SIGNS:
                    self.check(text[:at] + sign + text[at:])
                    self.check(text[:at] + sign + text[at + 1:])

    def test_one_word_otherwise(self):
        names = sorted({text.split(" ")[0] for text in ROWS}) + [
            "", "Put", "PUT", "do", "near", "last", "held", "0", "1", "8", "9", "00", "01", "901", "900", "1000", "-1",
            "+1", "1.0", "1_0", "Near", "bad", "first", "second", "read", "firsts", "01010011", "0101001", "010100110",
            "0 1010 011", "21010011"]
        for text in ROWS:
            words = text.split(" ")
            for at in range(len(words) + 1):
                self.check(" ".join(words[:at] + words[at + 1:]))
                self.check(" ".join(words[:at] + words[at:at + 1] + words[at:]))
                for name in names:
                    self.check(" ".join(words[:at] + [name] + words[at:]))
                    self.check(" ".join(words[:at] + [name] + words[at + 1:]))

    def test_blanks(self):
        for text in ROWS:
            for other in (" " + text, text + " ", "  " + text, text + "\n", "\t" + text, text.replace(" ", "\t"),
                          text.replace(" ", "\n")):
                if other != text:
                    self.assertFalse(self.check(other))
            if " " in text:
                self.assertFalse(self.check(text.replace(" ", "  ", 1)))
                self.assertFalse(self.check(text.replace(" ", "")))
        for text in ("", " ", "  ", "\n", "\t"):
            self.assertFalse(self.check(text))

    def test_numbers(self):
        for name in ("tick", "empty", "again"):
            for number in list(range(-3, 1000)) + [1000, 9000, 10 ** 20]:
                self.assertEqual(self.check(f"{name} {number}"), 1 <= number <= 900)
            for figures in ("00", "01", "001", "0001", "+1", "-0", "1.0", "1e2", "0x1", "1_0", "", "one", "9" * 5000):
                self.assertFalse(self.check(f"{name} {figures}"))

    def test_figures_that_are_not_plain(self):
        # Of other scripts, raised, wide: Python takes some of them for figures.
        for one in ("\u0661", "\u00b9", "\uff11", "\u0967", "\u2460", "\u00b2"):
            for text in (f"tick {one}", f"tick 1{one}", f"empty {one}", f"again {one}", f"cell {one}", f"whole {one}",
                         f"put {one} 01010011", f"put 1 0101001{one}", f"add {one} 1 1 near", f"join 1 1 1 {one} near"):
                self.assertFalse(self.check(text))

    def test_cells(self):
        for cell in list(range(-2, 30)) + ["00", "07", "a", ""]:
            for text in (f"cell {cell}", f"whole {cell}", f"put {cell} 01010011", f"add {cell} 0 0 up",
                         f"add 0 {cell} 0 up", f"add 0 0 {cell} up", f"join 0 0 0 {cell} up"):
                self.assertEqual(self.check(text), cell in range(8))

    def test_stages(self):
        for one in STAGES:
            self.assertTrue(self.check(f"tick 5 {one}"))
            self.assertFalse(self.check(f"tick {one}"))
            self.assertFalse(self.check(f"tick {one} 5"))
            self.assertFalse(self.check(f"tick 5 {one}ly"))
            for other in STAGES:
                self.assertEqual(self.check(f"tick 5 {one} {other}"), one != other)
                self.assertFalse(self.check(f"tick 5 {one} {other} {one}"))
                self.assertFalse(self.check(f"tick 5 {one},{other}"))
        self.assertFalse(self.check("tick"))
        self.assertFalse(self.check("tick 5 none"))

    def test_words_of_the_form(self):
        for form in (Form(2, 1), Form(3, 5), Form(8, 24)):
            width = 1 + form.scale + form.tail
            for bits in ("0" * width, "1" * width, ("10" * width)[:width]):
                self.assertTrue(self.check(f"put 1 {bits}", form))
                self.assertFalse(self.check(f"put 1 {bits}0", form))
                self.assertFalse(self.check(f"put 1 {bits[1:]}", form))
                self.assertFalse(self.check(f"put 1 {bits[:1]} {bits[1:]}", form))
                for at in range(width):
                    for sign in "2 -x":
                        self.assertFalse(self.check(f"put 1 {bits[:at]}{sign}{bits[at + 1:]}", form))

    def test_the_form_stays(self):
        form = Form(3, 2)
        row_in(form, "put 0 010101")
        self.assertEqual((form.scale, form.tail), (3, 2))


if __name__ == "__main__":
    unittest.main()
