"""Units of gates that are asked, and held against the plain unit."""

from guessedzeros.digits import digits_of, worth_of
from guessedzeros.plain import done
from guessedzeros.running import all_cases, ran
from guessedzeros.ways import FLAGS, NEAR, WAYS


def asked(net, form, a, b, *, way=NEAR):
    width = form.width()
    values = digits_of(a, 0, width) + digits_of(b, 0, width) + way_bits(way)
    return told_in(dict(ran(net, values)), 0)


def first_unlike(net, form, op, *, way=NEAR):
    width = form.width()
    many = 1 << (2 * width)
    full = (1 << many) - 1
    values = all_cases(2 * width) + [full * bit for bit in way_bits(way)]
    told = dict(ran(net, values, many=many))
    for case in range(many):
        a, b = divmod(case, 1 << width)
        if told_in(told, case) != done(form, op, (a, b), way=way):
            return a, b
    return None


def way_bits(way):
    return digits_of(WAYS.index(way), 0, 2)


def told_in(told, case):
    """The word and the flags in one of the cases that were run."""
    word = [(number >> case) & 1 for number in told["word"]]
    flags = [flag for flag, number in zip(FLAGS, told["flags"]) if (number >> case) & 1 == 1]
    return worth_of(word), tuple(flags)
