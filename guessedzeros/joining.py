"""Products with a sum, step by step, rounded once."""

from guessedzeros.plain import sign_of, unlike_sign
from guessedzeros.rounding import cut_off
from guessedzeros.steps import have_heads, head_of, plain_step, round_step, total_steps
from guessedzeros.ways import NEAR


def join_steps(form, a, b, c, *, way=NEAR):
    if not have_heads(form, (a, b, c)):
        return [plain_step("told", form, "join", (a, b, c), way)]
    one, other, power, more = placed(form, product_of_heads(form, a, b), head_of(form, c))
    one_sign = unlike_sign(form, a, b)
    other_sign = sign_of(form, c)
    greater = max(one, other)
    lesser = min(one, other)
    total, steps = total_steps(greater, lesser, more, one_sign == other_sign, greater.bit_length())
    if total == 0:
        last = plain_step("round", form, "join", (a, b, c), way)
    else:
        sign = one_sign if one == greater else other_sign
        last = round_step(form, sign, total, power, way, more)
    return [("place", one, other, power, more), *steps, last]


def product_of_heads(form, a, b):
    head, power = head_of(form, a)
    other_head, other_power = head_of(form, b)
    return head * other_head, power + other_power


def placed(form, product, term):
    """Both numbers at one power, that power, and whether more of the lesser one was cut off."""
    number, power = product
    head, head_power = term
    above = head_power - power
    if above > 2 * form.tail + 5:
        # The product is below the last of these three bits: there is just more.
        return 0, 8 * head, head_power - 3, True
    if above >= 0:
        return number, head << above, power, False
    by = min(-above, form.tail + 5)
    kept, more = cut_off(head, -above - by)
    return number << by, kept, power - by, more
