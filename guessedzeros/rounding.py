"""Exact worths exchanged for words, in four ways, and the flags that this raises."""

from guessedzeros.errors import TooFew
from guessedzeros.ways import CUT, FLAGS, NEAR, UP


def flags_together(one, other):
    return tuple([flag for flag in FLAGS if flag in one or flag in other])


def cut_off(number, by):
    # By less than 0 nothing goes out, zeros come in: so a worth of few bits needs no path of its own.
    if by < 0:
        return number << -by, False
    kept = number >> by
    return kept, (kept << by) != number


def last_power(form, number, power):
    return max(number.bit_length() + power - 1 - form.tail, least_power(form))


def least_power(form):
    return 1 - form.bias() - form.tail


def rounded(form, sign, number, power, *, way=NEAR, more=False):
    if more and (number == 0 or power >= last_power(form, number, power)):
        raise TooFew(power)
    if number == 0:
        return form.nought(sign), ()
    last = last_power(form, number, power)
    many, rest = parted(number, last - power, more)
    if goes_up(way, sign, many, rest):
        many += 1
    # Words of sign 0 are counted through without a gap, from small ones to plain ones and from each
    # scale to the next: so this is right, too, where the last bit's rise has gone through all of them.
    size = ((last - least_power(form)) << form.tail) + many
    if size > form.greatest():
        return word_beyond(form, sign, way), ("over", "rounded")
    return form.nought(sign) + size, flags_of_rest(form, number, power, rest)


def parted(number, by, more):
    """What is left of number by cutting off, and its rest: 0 none, 1 below a half, 2 a half, 3 above it."""
    halves, below = cut_off(number, by - 1)
    return halves >> 1, 2 * (halves & 1) + (1 if below or more else 0)


def goes_up(way, sign, many, rest):
    if way == NEAR:
        return rest == 3 or (rest == 2 and many % 2 == 1)
    return rest != 0 and goes_away(way, sign)


def goes_away(way, sign):
    """Whether what is between two words is rounded away from 0, by a way that isn't NEAR."""
    if way == CUT:
        return False
    return sign == (0 if way == UP else 1)


def word_beyond(form, sign, way):
    if way == NEAR or goes_away(way, sign):
        return form.endless(sign)
    return form.greatest(sign)


def flags_of_rest(form, number, power, rest):
    if rest == 0:
        return ()
    # With more, too: least_plain is a multiple of 2 ** power then, so a bit more doesn't reach it.
    if number.bit_length() + power <= 1 - form.bias():
        return ("under", "rounded")
    return ("rounded",)
