"""Division, a digit a step."""

from guessedzeros.digits import worth_of
from guessedzeros.errors import NoStep, Undone
from guessedzeros.forms import Form
from guessedzeros.plain import divided, unlike_sign
from guessedzeros.rounding import rounded
from guessedzeros.steps import have_heads, head_of
from guessedzeros.ways import NEAR


class Divider:
    """A division under way: the digits so far, and the rest that they leave."""

    def __init__(self, form, a, b, *, way=NEAR, signed=False):
        # One of its own: what is handed in isn't kept to be read later.
        self.form = Form(form.scale, form.tail)
        self.one = a
        self.two = b
        self.way = way
        self.signed = signed
        self.told = []
        self.due = 0
        self.over = None
        self.by = None
        self.power = 0
        if have_heads(self.form, (a, b)):
            self.begin()

    def begin(self):
        self.over, power = full_head(self.form, self.one)
        self.by, other_power = full_head(self.form, self.two)
        self.due = self.form.tail + 3
        # The first digit is of 2 ** 0, the last one so many places behind it.
        self.power = power - other_power - self.form.tail - 2

    def step(self):
        if self.left() == 0:
            raise NoStep(len(self.told))
        rest = self.over if self.told == [] else 2 * self.over
        digit = self.digit_by(rest)
        self.over = rest - digit * self.by
        self.told.append(digit)
        return digit

    def digit_by(self, rest):
        if not self.signed:
            return 1 if rest >= self.by else 0
        # The divisor isn't asked: so the digit is known without taking it off first.
        bound = 1 << self.form.tail
        if rest >= bound:
            return 1
        return -1 if rest < -bound else 0

    def digits(self):
        return list(self.told)

    def quotient(self):
        return worth_of(self.told)

    def rest(self):
        return self.over

    def divisor(self):
        return self.by

    def left(self):
        return self.due - len(self.told)

    def outcome(self):
        if self.left() > 0:
            raise Undone(self.left())
        if self.by is None:
            return divided(self.form, self.one, self.two, way=self.way)
        quotient = self.quotient() - (1 if self.over < 0 else 0)
        # Below 0 the rest is above -divisor: mended it isn't 0 either.
        more = self.over != 0
        sign = unlike_sign(self.form, self.one, self.two)
        return rounded(self.form, sign, quotient, self.power, way=self.way, more=more)

    def like(self):
        twin = Divider(self.form, self.one, self.two, way=self.way, signed=self.signed)
        twin.told = list(self.told)
        twin.over = self.over
        return twin


def full_head(form, word):
    """A word's head, shifted to the left till it has all bits that a head may have, and its power."""
    head, power = head_of(form, word)
    by = form.tail + 1 - head.bit_length()
    return head << by, power - by
