"""What the units of steps share: heads, totals with their guess, and the steps at the end."""

from guessedzeros.digits import zeros_of
from guessedzeros.guess import guess
from guessedzeros.plain import done
from guessedzeros.rounding import rounded


def have_heads(form, words):
    """Whether all are small or plain, so that there's something to be reckoned in steps."""
    return all([form.sort_of(word) in ("small", "plain") for word in words])


def head_of(form, word):
    """The number of a word's worth without the sign, and its power."""
    number, power = form.worth(word)
    return abs(number), power


def plain_step(name, form, op, words, way):
    word, flags = done(form, op, words, way=way)
    return name, word, flags


def round_step(form, sign, total, power, way, more):
    word, flags = rounded(form, sign, total, power, way=way, more=more)
    return "round", word, flags


def total_steps(greater, lesser, more, alike, many):
    """The total of two numbers of signs that are alike or not, and the steps that tell it."""
    if alike:
        total = greater + lesser
        return total, [("sum", total)]
    # What was cut off is taken, too: it is left as one less, and more above that.
    total = greater - lesser - (1 if more else 0)
    zeros = guess(greater, lesser, many)
    return total, [("less", total), ("guess", zeros, zeros_of(total, many) - zeros)]
