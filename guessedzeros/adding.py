"""Sums and differences, step by step."""

from guessedzeros.plain import sign_of
from guessedzeros.rounding import cut_off
from guessedzeros.spelling import size_of
from guessedzeros.steps import have_heads, head_of, plain_step, round_step, total_steps
from guessedzeros.ways import NEAR


def add_steps(form, a, b, *, way=NEAR):
    if not have_heads(form, (a, b)):
        return [plain_step("told", form, "add", (a, b), way)]
    greater, lesser = ordered(form, a, b)
    head, power = head_of(form, greater)
    lesser_head, lesser_power = head_of(form, lesser)
    # Two bits more than a head has: they, and whether there was more, are all that rounding needs.
    number, more = cut_off(4 * lesser_head, power - lesser_power)
    sign = sign_of(form, greater)
    alike = sign == sign_of(form, lesser)
    total, steps = total_steps(4 * head, number, more, alike, form.tail + 3)
    if total == 0:
        last = plain_step("round", form, "add", (a, b), way)
    else:
        last = round_step(form, sign, total, power - 2, way, more)
    return [("order", greater, lesser), ("shift", number, more), *steps, last]


def take_steps(form, a, b, *, way=NEAR):
    return add_steps(form, a, form.turned(b), way=way)


def ordered(form, a, b):
    return (a, b) if size_of(form, a) >= size_of(form, b) else (b, a)
