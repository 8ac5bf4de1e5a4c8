import itertools
import unittest

from guessedzeros.cases import cases_of, fits, shows_cases, spread
from guessedzeros.digits import worth_of, zeros_of
from guessedzeros.guess import marks_of
from tests.things import OTHER_KINDS, is_alike

SIGNS = {"+": (1,), "0": (0,), "-": (-1,), ".": (1, 0, -1)}


def all_digits(many):
    return list(itertools.product((-1, 0, 1), repeat=many))


def told_of(digits):
    return (marks_of(digits) + [1]).index(1), zeros_of(worth_of(digits), len(digits))


def plain_cases(many):
    """A case for each digits by itself: such a list, where it isn't too long."""
    names = {1: "+", 0: "0", -1: "-"}
    return [("".join(names[digit] for digit in digits), *told_of(digits)) for digits in all_digits(many)]


class TestFits(unittest.TestCase):
    def test_by_hand(self):
        for case, digits, due in (
                ("+", [1], True), ("+", [0], False), ("+", [-1], False), ("0", [0], True), ("0", [1], False),
                ("-", [-1], True), ("-", [1], False), (".", [1], True), (".", [0], True), (".", [-1], True),
                ("+0-.", [1, 0, -1, 0], True), ("+0-.", [1, 0, 0, 0], False), ("........", [0] * 8, True)):
            self.assertIs(fits(case, digits), due)
            self.assertIs(fits(case, tuple(digits)), due)

    def test_of_other_lengths(self):
        for case, digits in (("..", [0]), (".", [0, 0]), ("+", []), ("+0", [1])):
            self.assertIs(fits(case, digits), False)

    def test_all_of_few(self):
        for many in range(1, 5):
            for case in itertools.product("+0-.", repeat=many):
                for digits in all_digits(many):
                    due = all(digit in SIGNS[sign] for sign, digit in zip(case, digits))
                    self.assertIs(fits("".join(case), list(digits)), due)

    def test_what_is_handed_in_stays(self):
        digits = [1, 0, -1]
        fits("+0.", digits)
        self.assertEqual(digits, [1, 0, -1])


class TestSpread(unittest.TestCase):
    def test_by_hand(self):
        for case, due in (
                ("+", (1, 1)), ("0", (0, 0)), ("-", (-1, -1)), (".", (-1, 1)), ("+.", (1, 3)), ("-.", (-3, -1)),
                ("+-0", (2, 2)), (".0.", (-5, 5)), ("........", (-255, 255)), ("+++++++.", (253, 255))):
            self.assertTrue(is_alike(spread(case), due), (case, spread(case)))

    def test_all_of_few(self):
        for many in range(1, 5):
            for signs in itertools.product("+0-.", repeat=many):
                case = "".join(signs)
                worths = [worth_of(digits) for digits in all_digits(many) if fits(case, digits)]
                self.assertEqual(spread(case), (min(worths), max(worths)))


class TestCasesOf(unittest.TestCase):
    def test_each_of_all_digits_fits_just_one(self):
        for many in range(1, 9):
            rows = cases_of(many)
            self.assertIs(type(rows), list)
            self.assertLessEqual(len(rows), 500)
            found = {}
            for row in rows:
                self.assertEqual([type(part) for part in row], [str, int, int])
                self.assertIs(type(row), tuple)
                case, guessed, zeros = row
                self.assertEqual(len(case), many)
                for digits in itertools.product(*[SIGNS[sign] for sign in case]):
                    self.assertTrue(fits(case, digits))
                    self.assertNotIn(digits, found)
                    found[digits] = (guessed, zeros)
            self.assertEqual(len(found), 3 ** many)
            for digits, told in found.items():
                self.assertEqual(told_of(digits), told)

    def test_what_is_told_is_the_askers_own(self):
        rows = cases_of(3)
        kept = list(rows)
        rows.pop()
        rows[0] = None
        self.assertEqual(cases_of(3), kept)


class TestShowsCases(unittest.TestCase):
    def test_what_is_told_is_shown(self):
        for many in range(1, 9):
            rows = cases_of(many)
            self.assertIs(shows_cases(many, rows), True)
            self.assertIs(shows_cases(many, rows[::-1]), True)
            self.assertEqual(rows, cases_of(many))
            for other in range(1, 9):
                if other != many:
                    self.assertIs(shows_cases(other, rows), False)

    def test_other_such_lists(self):
        for many in range(1, 6):
            self.assertIs(shows_cases(many, plain_cases(many)), True)

    def test_at_most_500(self):
        plain = plain_cases(6)
        self.assertEqual(len(plain), 729)
        self.assertIs(shows_cases(6, plain), False)
        # Each split of a case makes two more: there are never just 500, so 499 and 501 are next to the bound.
        rows = cases_of(6)
        while len(rows) < 499:
            at = next(at for at, row in enumerate(rows) if "." in row[0])
            case, *told = rows.pop(at)
            rows += [(case.replace(".", sign, 1), *told) for sign in "+0-"]
        self.assertEqual(len(rows), 499)
        self.assertIs(shows_cases(6, rows), True)
        at = next(at for at, row in enumerate(rows) if "." in row[0])
        case, *told = rows.pop(at)
        rows += [(case.replace(".", sign, 1), *told) for sign in "+0-"]
        self.assertEqual(len(rows), 501)
        self.assertIs(shows_cases(6, rows), False)

    def test_left_out_or_twice(self):
        for many in range(1, 6):
            rows = cases_of(many)
            for at in range(len(rows)):
                self.assertIs(shows_cases(many, rows[:at] + rows[at + 1:]), False)
                self.assertIs(shows_cases(many, rows + [rows[at]]), False)
                other = rows[(at + 1) % len(rows)]
                self.assertIs(shows_cases(many, rows[:at] + [other] + rows[at + 1:]), False)

    def test_left_out_or_twice_of_eight(self):
        rows = cases_of(8)
        for at in range(0, len(rows), 29):
            self.assertIs(shows_cases(8, rows[:at] + rows[at + 1:]), False)
            self.assertIs(shows_cases(8, rows + [rows[at]]), False)

    def test_otherwise_at_one_place(self):
        for many in (1, 2, 3, 4):
            rows = cases_of(many)
            for at, (case, guessed, zeros) in enumerate(rows):
                others = [(case, guessed + by, zeros) for by in (-1, 1)]
                others += [(case, guessed, zeros + by) for by in (-1, 1)]
                others += [(case, guessed + 1, zeros + 1), (case[1:], guessed, zeros), (case + "0", guessed, zeros)]
                for place, sign in itertools.product(range(many), "+0-. 1x"):
                    if case[place] != sign:
                        others.append((case[:place] + sign + case[place + 1:], guessed, zeros))
                for other in others:
                    self.assertIs(shows_cases(many, rows[:at] + [other] + rows[at + 1:]), False, other)

    def test_rows_of_other_kinds(self):
        rows = cases_of(3)
        self.assertIs(shows_cases(3, tuple(rows)), False)
        for at, (case, guessed, zeros) in enumerate(rows):
            others = [
                [case, guessed, zeros], (case, guessed), (case, guessed, zeros, 0), (list(case), guessed, zeros),
                (case, str(guessed), zeros), (case, guessed, str(zeros)), (case, None, zeros), (None, guessed, zeros),
                (case, [guessed], zeros), (case, guessed, (zeros,)), (tuple(case), guessed, zeros), (7, guessed, zeros)]
            if guessed < 2:
                others.append((case, bool(guessed), zeros))
            if zeros < 2:
                others.append((case, guessed, bool(zeros)))
            for other in others + OTHER_KINDS + [3, 0]:
                self.assertIs(shows_cases(3, rows[:at] + [other] + rows[at + 1:]), False, other)

    def test_things_of_every_kind(self):
        for many in range(1, 9):
            for thing in OTHER_KINDS + [0, 1, -1, 10 ** 30]:
                self.assertIs(shows_cases(many, thing), False, thing)

    def test_what_is_asked_about_stays(self):
        thing = [("+", 0, 0), ["0", 1, [1]], 5]
        shows_cases(1, thing)
        self.assertTrue(is_alike(thing, [("+", 0, 0), ["0", 1, [1]], 5]))


if __name__ == "__main__":
    unittest.main()
