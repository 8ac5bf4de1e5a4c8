"""Cases into which all digits are split, each with one guess and one number of zeros."""

from guessedzeros.digits import worth_of, zeros_of
from guessedzeros.guess import first_mark
from guessedzeros.kinds import is_number, is_text_of

MOST_CASES = 500

# Which digits fit a sign, the least first.
FITTING = {"-": (-1,), "0": (0,), "+": (1,), ".": (-1, 0, 1)}


def fits(case, digits):
    if len(case) != len(digits):
        return False
    return all([digit in FITTING[sign] for sign, digit in zip(case, digits)])


def spread(case):
    least = worth_of([FITTING[sign][0] for sign in case])
    greatest = worth_of([FITTING[sign][-1] for sign in case])
    return least, greatest


def cases_of(many):
    rows = [("0" * many, many, many)]
    for ahead in range(many):
        # The first mark stands behind zeros and a digit with its opposites behind it, or is that digit.
        for opposites in range(ahead + 1):
            zeros = "0" * (ahead - opposites)
            rows.extend(cases_behind(zeros + "+" + "-" * opposites, "+", "-", many))
            rows.extend(cases_behind(zeros + "-" + "+" * opposites, "-", "+", many))
    return rows


def cases_behind(head, sign, opposite, many):
    """The cases that begin with head, whose last digit is the first mark; the difference has that sign."""
    ahead = len(head) - 1
    left = many - len(head)
    rows = [(head + "0" * left, ahead, ahead)]
    for zeros in range(left):
        begin = head + "0" * zeros
        end = "." * (left - zeros - 1)
        rows.append((begin + sign + end, ahead, ahead))
        # Right behind the mark its opposite would have made it none.
        if zeros > 0:
            rows.append((begin + opposite + end, ahead, ahead + 1))
    return rows


def shows_cases(many, thing):
    if not isinstance(thing, list) or len(thing) > MOST_CASES:
        return False
    if not all([is_row(many, row) for row in thing]):
        return False
    # Where as many fit as there are digits, and none fit twice, all fit once.
    many_told = sum([many_fitting(case) for case, ahead, zeros in thing])
    return many_told == many_fitting("." * many) and holds(thing)


def is_row(many, thing):
    if not isinstance(thing, tuple) or len(thing) != 3:
        return False
    case, ahead, zeros = thing
    return is_text_of("-0+.", many, case) and is_number(ahead) and is_number(zeros)


def many_fitting(case):
    many = 1
    for sign in case:
        many *= len(FITTING[sign])
    return many


def all_fitting(case):
    found = [()]
    for sign in case:
        found = [(*digits, digit) for digits in found for digit in FITTING[sign]]
    return found


def holds(rows):
    """Whether no digits fit two of the rows, and all have the guess and the zeros of theirs."""
    seen = set()
    for case, ahead, zeros in rows:
        for digits in all_fitting(case):
            if digits in seen or told_of(digits) != (ahead, zeros):
                return False
            seen.add(digits)
    return True


def told_of(digits):
    return first_mark(digits), zeros_of(worth_of(digits), len(digits))
