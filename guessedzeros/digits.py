"""Differences as digits -1, 0 and 1, and the zeros ahead of a number."""


def digits_of(one, other, many):
    return [((one >> place) & 1) - ((other >> place) & 1) for place in range(many - 1, -1, -1)]


def worth_of(digits):
    worth = 0
    for digit in digits:
        worth = 2 * worth + digit
    return worth


def zeros_of(number, many):
    return many - abs(number).bit_length()
