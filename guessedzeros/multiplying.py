"""Products, step by step: rows by digits of base 4, saved three by three."""

from guessedzeros.plain import unlike_sign
from guessedzeros.steps import have_heads, head_of, plain_step, round_step
from guessedzeros.ways import NEAR


def fours_of(number):
    # Doubled, so that below the last bit stands a 0.
    doubled = 2 * number
    return [four_of(doubled >> (2 * place)) for place in range(number.bit_length() // 2, -1, -1)]


def four_of(bits):
    """The digit of the last three bits: the one above, the one at its place, the one below."""
    return ((bits >> 1) & 1) + (bits & 1) - 2 * ((bits >> 2) & 1)


def rows_of(one, number):
    fours = fours_of(number)
    last = len(fours) - 1
    return [(four * one) << (2 * (last - at)) for at, four in enumerate(fours)]


def saved(x, y, z):
    return x ^ y ^ z, 2 * ((x & y) | (x & z) | (y & z))


def levels_of(rows):
    levels = [list(rows)]
    while len(levels[-1]) > 2:
        levels.append(level_behind(levels[-1]))
    return levels


def level_behind(rows):
    by_threes = len(rows) // 3 * 3
    level = []
    for at in range(0, by_threes, 3):
        level.extend(saved(rows[at], rows[at + 1], rows[at + 2]))
    return level + rows[by_threes:]


def times_steps(form, a, b, *, way=NEAR):
    if not have_heads(form, (a, b)):
        return [plain_step("told", form, "times", (a, b), way)]
    head, power = head_of(form, a)
    number, other_power = head_of(form, b)
    levels = levels_of(rows_of(head, number))
    one, other = [*levels[-1], 0][:2]
    total = one + other
    return [
        ("fours", fours_of(number)),
        ("levels", len(levels)),
        ("pair", one, other),
        ("product", total),
        round_step(form, unlike_sign(form, a, b), total, power + other_power, way, False),
    ]
