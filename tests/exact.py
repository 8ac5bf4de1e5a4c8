"""Exact reckoning by fractions, which uses nothing of the package: what it tells is held against this.

Words of sign 0 rise with their worths, so that the two next to a worth are found by searching through
them; beyond the greatest they are gone on with, as if scales had no end.
"""

from bisect import bisect_right
from fractions import Fraction
from functools import lru_cache

WAYS = ("near", "cut", "up", "down")
NONE, ENDLESS = "none", "endless"


def marks_by_hand(digits):
    """The marks, told by the three digits around each place."""
    around = [0, *digits, 0]
    marks = []
    for ahead, digit, behind in zip(around, around[1:], around[2:]):
        if digit == 0:
            marks.append(0)
        elif ahead == 0:
            marks.append(int(digit + behind != 0))
        else:
            marks.append(int(digit != behind))
    return marks


def guess_by_hand(one, other, many):
    digits = [(one >> at & 1) - (other >> at & 1) for at in reversed(range(many))]
    return (marks_by_hand(digits) + [1]).index(1)


def guess_step(one, other, total, many):
    """The step that units of steps tell of a difference; the zeros of total are counted in its figures."""
    figures = bin(total)[2:] if total else ""
    zeros = guess_by_hand(one, other, many)
    return "guess", zeros, many - len(figures) - zeros


class Exact:
    def __init__(self, form):
        self.scale, self.tail = form.scale, form.tail
        self.bias = 2 ** (self.scale - 1) - 1
        self.top = 2 ** self.scale - 1
        self.sign_bit = 2 ** (self.scale + self.tail)
        self.endless = self.top * 2 ** self.tail
        self.none = self.endless + 2 ** (self.tail - 1)
        # The worth of the word 1: every worth of a word is a multiple of it.
        self.step = Fraction(1, 2 ** (self.bias + self.tail - 1))
        self.found = lru_cache(maxsize=None)(self.search)

    def steps(self, size):
        """How many times step the word of that number, sign 0, is worth; scales have no end here."""
        scale, tail = divmod(size, 2 ** self.tail)
        return tail if scale == 0 else (2 ** self.tail + tail) * 2 ** (scale - 1)

    def read(self, word):
        """(sign, worth), worth a fraction without the sign, NONE or ENDLESS."""
        sign, size = divmod(word, self.sign_bit)
        if size >= self.endless:
            return sign, ENDLESS if size == self.endless else NONE
        return sign, self.steps(size) * self.step

    def head(self, word):
        """(sign, head, power): a number above 0, and its power, of a small or plain word."""
        sign, size = divmod(word, self.sign_bit)
        scale, tail = divmod(size, 2 ** self.tail)
        if scale == 0:
            return sign, tail, 1 - self.bias - self.tail
        return sign, 2 ** self.tail + tail, scale - self.bias - self.tail

    def is_number(self, word):
        """Whether it's small or plain."""
        return self.read(word)[1] not in (NONE, ENDLESS, 0)

    def search(self, size):
        """(the word below or at it, how far it is from there to the next: 0, below 1/2, 1/2, above)."""
        many = size / self.step
        most = (self.bias + 900) << self.tail
        below = bisect_right(range(most), many, key=self.steps) - 1
        least, next_one = self.steps(below), self.steps(below + 1)
        return below, (many - least) / (next_one - least)

    def rounded(self, sign, size, way):
        if size == 0:
            return sign * self.sign_bit, ()
        word, part = self.found(size)
        away = {"near": part > Fraction(1, 2) or part == Fraction(1, 2) and word % 2 == 1,
                "cut": False, "up": part > 0 and sign == 0, "down": part > 0 and sign == 1}[way]
        word += away
        if word >= self.endless:
            stays = way == "cut" or way == "up" and sign == 1 or way == "down" and sign == 0
            return sign * self.sign_bit + self.endless - stays, ("over", "rounded")
        flags = ()
        if part:
            flags = ("under", "rounded") if size < 2 ** self.tail * self.step else ("rounded",)
        return sign * self.sign_bit + word, flags

    def done(self, op, words, way):
        terms = [self.read(word) for word in words]
        if NONE in [worth for sign, worth in terms]:
            return self.none, ()
        if op == "take":
            op, terms = "add", [terms[0], (1 - terms[1][0], terms[1][1])]
        if op == "over":
            return self.over(terms, way)
        if op in ("times", "join"):
            (one, x), (two, y) = terms[:2]
            if (x == ENDLESS and y == 0) or (y == ENDLESS and x == 0):
                return self.none, ("bad",)
            terms[:2] = [(one ^ two, ENDLESS if ENDLESS in (x, y) else x * y)]
        if op == "times":
            (sign, worth), = terms
            if worth == ENDLESS:
                return sign * self.sign_bit + self.endless, ()
            return self.rounded(sign, worth, way)
        return self.sum(terms, way)

    def over(self, terms, way):
        (one, x), (two, y) = terms
        sign = one ^ two
        if (x, y) in ((0, 0), (ENDLESS, ENDLESS)):
            return self.none, ("bad",)
        if x == ENDLESS or y == 0:
            return sign * self.sign_bit + self.endless, () if x == ENDLESS else ("bynought",)
        if y == ENDLESS:
            return sign * self.sign_bit, ()
        return self.rounded(sign, x / y, way)

    def sum(self, terms, way):
        endless = {sign for sign, worth in terms if worth == ENDLESS}
        if endless == {0, 1}:
            return self.none, ("bad",)
        if endless:
            return endless.pop() * self.sign_bit + self.endless, ()
        total = sum(-worth if sign else worth for sign, worth in terms)
        if total == 0:
            signs = {sign for sign, worth in terms if worth == 0}
            alike = len(signs) == 1 and terms[0][1] == terms[1][1] == 0
            return (signs.pop() if alike else int(way == "down")) * self.sign_bit, ()
        return self.rounded(int(total < 0), abs(total), way)
