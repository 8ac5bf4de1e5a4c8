"""The plain unit: every reckoning is exact, and rounded once."""

from guessedzeros.rounding import rounded
from guessedzeros.ways import DOWN, NEAR

# A term is (sign, worth) of a word or a product that isn't none; the worth of an endless one is None.


def added(form, a, b, *, way=NEAR):
    if has_none(form, (a, b)):
        return form.none_word(), ()
    return terms_added(form, term_of(form, a), term_of(form, b), way)


def taken(form, a, b, *, way=NEAR):
    return added(form, a, form.turned(b), way=way)


def multiplied(form, a, b, *, way=NEAR):
    if has_none(form, (a, b)):
        return form.none_word(), ()
    if is_endless_by_nought(form, a, b):
        return bad(form)
    sign, worth = product_of(form, a, b)
    if worth is None:
        return form.endless(sign), ()
    number, power = worth
    return rounded(form, sign, abs(number), power, way=way)


def divided(form, a, b, *, way=NEAR):
    if has_none(form, (a, b)):
        return form.none_word(), ()
    one = form.sort_of(a)
    other = form.sort_of(b)
    sign = unlike_sign(form, a, b)
    if one == other and one in ("nought", "endless"):
        return bad(form)
    if one == "endless":
        return form.endless(sign), ()
    if other == "endless" or one == "nought":
        return form.nought(sign), ()
    if other == "nought":
        return form.endless(sign), ("bynought",)
    return quotient_rounded(form, sign, form.worth(a), form.worth(b), way)


def joined(form, a, b, c, *, way=NEAR):
    if has_none(form, (a, b, c)):
        return form.none_word(), ()
    if is_endless_by_nought(form, a, b):
        return bad(form)
    return terms_added(form, product_of(form, a, b), term_of(form, c), way)


def has_none(form, words):
    return "none" in [form.sort_of(word) for word in words]


def bad(form):
    return form.none_word(), ("bad",)


def is_endless_by_nought(form, a, b):
    sorts = (form.sort_of(a), form.sort_of(b))
    return "endless" in sorts and "nought" in sorts


def sign_of(form, word):
    return form.parts(word)[0]


def unlike_sign(form, a, b):
    return sign_of(form, a) ^ sign_of(form, b)


def term_of(form, word):
    return sign_of(form, word), form.worth(word)


def product_of(form, a, b):
    """The term of a by b, where neither is none and they aren't endless and nought."""
    sign = unlike_sign(form, a, b)
    one = form.worth(a)
    other = form.worth(b)
    if one is None or other is None:
        return sign, None
    return sign, (one[0] * other[0], one[1] + other[1])


def terms_added(form, one, other, way):
    sign, worth = one
    other_sign, other_worth = other
    if worth is None and other_worth is None and sign != other_sign:
        return bad(form)
    if worth is None:
        return form.endless(sign), ()
    if other_worth is None:
        return form.endless(other_sign), ()
    total, power = worths_added(worth, other_worth)
    if total == 0:
        return form.nought(nought_sign(sign, other_sign, way)), ()
    return rounded(form, 1 if total < 0 else 0, abs(total), power, way=way)


def nought_sign(sign, other_sign, way):
    # Of one sign only noughts come to 0.
    if sign == other_sign:
        return sign
    return 1 if way == DOWN else 0


def worths_added(one, other):
    number, power = one
    other_number, other_power = other
    least = min(power, other_power)
    return (number << (power - least)) + (other_number << (other_power - least)), least


def quotient_rounded(form, sign, one, other, way):
    number, power = one
    divisor, divisor_power = other
    # A head has at most tail + 1 bits: so the quotient has tail + 2 at least, and its last bit is below
    # the one that it's rounded at, as a rest needs it.
    by = 2 * form.tail + 2
    quotient, rest = divmod(abs(number) << by, abs(divisor))
    return rounded(form, sign, quotient, power - divisor_power - by, way=way, more=rest != 0)


OPS = {"add": added, "take": taken, "times": multiplied, "over": divided, "join": joined}


def done(form, op, words, *, way=NEAR):
    reckon = OPS[op]
    return reckon(form, *words, way=way)
