"""The guess of how many zeros stand ahead of a difference, and its mend."""

from guessedzeros.digits import digits_of, zeros_of


def marks_of(digits):
    return [1 if is_mark(digits, place) else 0 for place in range(len(digits))]


def is_mark(digits, place):
    digit = digits[place]
    if digit == 0:
        return False
    ahead = digits[place - 1] if place > 0 else 0
    behind = digits[place + 1] if place + 1 < len(digits) else 0
    return behind != (-digit if ahead == 0 else digit)


def first_mark(digits):
    """How many digits stand ahead of the first mark; all where there is none."""
    marks = marks_of(digits)
    return marks.index(1) if 1 in marks else len(marks)


def guess(one, other, many):
    return first_mark(digits_of(one, other, many))


def mend(one, other, many):
    return zeros_of(one - other, many) - guess(one, other, many)
