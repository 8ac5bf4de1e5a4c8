import itertools
import unittest

from guessedzeros.deeds import is_deed
from guessedzeros.forms import Form
from tests.things import OTHER_KINDS, is_alike

FORM = Form(3, 2)
WAYS = ("near", "cut", "up", "down")
DEEDS = [
    ("put", 0, 0), ("put", 7, 63), ("put", 3, 17),
    ("add", 0, 1, 2, "near"), ("take", 7, 7, 7, "cut"), ("times", 3, 0, 7, "up"), ("over", 5, 4, 4, "down"),
    ("join", 0, 1, 2, 3, "near"), ("join", 7, 0, 7, 0, "up"),
]
NO_CELLS = [-1, 8, 9, 100, -8, True, False, None, "0", "", "1", [0], (0,), [], (), 10 ** 30]
NO_WORDS = [-1, 64, 65, 10 ** 30, True, False, None, "0", "0 000 00", [0], (0,), [], ()]
NO_WAYS = ["", "Near", "near ", "NEAR", "n", "bad", "add", 0, 1, True, False, None, ["near"], ("near",), [], ()]
NO_OPS = ["", "Add", "add ", "divide", "near", "done", "tick", "plus", 0, 1, True, None, ["add"], ("add",), [], (),
          ([],), ("a", ["b"])]


class TestIsDeed(unittest.TestCase):
    def yes(self, thing, form=FORM):
        self.assertIs(is_deed(form, thing), True, thing)

    def no(self, thing, form=FORM):
        self.assertIs(is_deed(form, thing), False, thing)

    def test_each_kind(self):
        for deed in DEEDS:
            self.yes(deed)

    def test_all_cells_and_ways(self):
        for cell in range(8):
            for word in range(64):
                self.yes(("put", cell, word))
        for op in ("add", "take", "times", "over"):
            for way in WAYS:
                for cells in itertools.product((0, 1, 6, 7), repeat=3):
                    self.yes((op, *cells, way))
        for way in WAYS:
            for cells in itertools.product((0, 3, 7), repeat=4):
                self.yes(("join", *cells, way))

    def test_words_of_the_form(self):
        for form in (Form(2, 1), Form(4, 5), Form(8, 24)):
            many = 2 ** (1 + form.scale + form.tail)
            self.yes(("put", 0, many - 1), form)
            self.no(("put", 0, many), form)
            self.no(("put", 0, -1), form)

    def test_a_cell_otherwise(self):
        for deed in DEEDS:
            cells = [1] if deed[0] == "put" else range(1, len(deed) - 1)
            for at in cells:
                for other in NO_CELLS:
                    self.no(deed[:at] + (other,) + deed[at + 1:])

    def test_the_last_part_otherwise(self):
        for deed in DEEDS:
            for other in NO_WORDS if deed[0] == "put" else NO_WAYS:
                self.no(deed[:-1] + (other,))
        for deed in DEEDS:
            self.no(deed[:-1] + (("near",) if deed[0] == "put" else (0,)))

    def test_the_op_otherwise(self):
        for deed in DEEDS:
            for other in NO_OPS:
                self.no((other,) + deed[1:])
            for other in ("put", "add", "take", "times", "over", "join"):
                lengths = {"put": 3, "join": 6}
                is_put = "put" in (other, deed[0]) and other != deed[0]
                if lengths.get(other, 5) == len(deed) and not is_put:
                    self.yes((other,) + deed[1:])
                else:
                    self.no((other,) + deed[1:])

    def test_a_part_out_twice_or_more(self):
        for deed in DEEDS:
            for at in range(len(deed)):
                self.no(deed[:at] + deed[at + 1:])
                self.no(deed[:at] + (deed[at],) + deed[at:])
            for more in (0, "near", None, ()):
                self.no(deed + (more,))
                self.no((more,) + deed)

    def test_other_kinds_as_the_whole(self):
        for deed in DEEDS:
            self.no(list(deed))
            self.no((deed,))
            self.no([deed])
            self.no(" ".join(map(str, deed)))
        for thing in OTHER_KINDS + [0, 1, -1, 10 ** 30, ("put",), ("add",), ("put", 0), (0, 0, 0), ("join", "near")]:
            self.no(thing)

    def test_what_is_asked_about_stays(self):
        thing = ("add", [0], (1, [2]), 3, "near")
        is_deed(FORM, thing)
        self.assertTrue(is_alike(thing, ("add", [0], (1, [2]), 3, "near")))
        thing = ["add", 0, 1, 2, "near"]
        is_deed(FORM, thing)
        self.assertEqual(thing, ["add", 0, 1, 2, "near"])


if __name__ == "__main__":
    unittest.main()
