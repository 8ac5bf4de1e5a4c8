"""Forms of floating numbers, and the words of a form."""

from guessedzeros.errors import BadForm
from guessedzeros.kinds import is_number_in


class Form:
    """How many bits of scale and how many of tail stand behind the sign in a word."""

    def __init__(self, scale, tail):
        if not is_number_in(2, 8, scale):
            raise BadForm("scale")
        if not is_number_in(1, 24, tail):
            raise BadForm("tail")
        self.scale = scale
        self.tail = tail

    def width(self):
        return 1 + self.scale + self.tail

    def bias(self):
        return (1 << (self.scale - 1)) - 1

    def top(self):
        return (1 << self.scale) - 1

    def parts(self, word):
        sign = (word >> (self.scale + self.tail)) & 1
        scale = (word >> self.tail) & self.top()
        tail = word & ((1 << self.tail) - 1)
        return sign, scale, tail

    def word_of(self, sign, scale, tail):
        return (sign << (self.scale + self.tail)) | (scale << self.tail) | tail

    def is_word(self, thing):
        return is_number_in(0, (1 << self.width()) - 1, thing)

    def sort_of(self, word):
        sign, scale, tail = self.parts(word)
        if scale == 0:
            return "nought" if tail == 0 else "small"
        if scale == self.top():
            return "endless" if tail == 0 else "none"
        return "plain"

    def nought(self, sign=0):
        return self.word_of(sign, 0, 0)

    def endless(self, sign=0):
        return self.word_of(sign, self.top(), 0)

    def greatest(self, sign=0):
        return self.word_of(sign, self.top() - 1, (1 << self.tail) - 1)

    def least_plain(self, sign=0):
        return self.word_of(sign, 1, 0)

    def none_word(self):
        return self.word_of(0, self.top(), 1 << (self.tail - 1))

    def turned(self, word):
        sign, scale, tail = self.parts(word)
        return self.word_of(1 - sign, scale, tail)

    def worth(self, word):
        sign, scale, tail = self.parts(word)
        if scale == self.top():
            return None
        # Small words have the scale of the least plain ones, but no bit ahead of the tail.
        number = tail if scale == 0 else (1 << self.tail) + tail
        power = max(scale, 1) - self.bias() - self.tail
        return (-number if sign == 1 else number), power

    def __eq__(self, other):
        return isinstance(other, Form) and self.scale == other.scale and self.tail == other.tail

    def __str__(self):
        return f"{self.scale}.{self.tail}"

    def __repr__(self):
        return f"Form({self.scale}, {self.tail})"
