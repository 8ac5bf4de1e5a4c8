"""Whether two nets are the same, and papers that show it: cubes of all inputs, or a text that parts them."""

from guessedzeros.cubes import hole, split
from guessedzeros.errors import TooMuch, Unfit
from guessedzeros.kinds import is_text_of
from guessedzeros.settled import settled


def same(one, other, *, most=400):
    need_fit(one, other)
    kept = []
    # The one to be looked at next stands last.
    left = ["-" * one.inputs()]
    looked_at = 0
    while left != []:
        if looked_at == most:
            raise TooMuch(most)
        looked_at += 1
        cube = left.pop()
        found = looked(one, other, cube)
        if found == "unlike":
            return "unlike", cube.replace("-", "0")
        if found == "same":
            kept.append(cube)
        else:
            with_0, with_1 = split(cube, cube.index("-"))
            left.extend([with_1, with_0])
    return "same", kept


def looked(one, other, cube):
    """What comes of a cube: "open" where settled has - of one of both nets, else "same" or "unlike"."""
    told = settled(one, cube)
    told_other = settled(other, cube)
    if has_open(told) or has_open(told_other):
        return "open"
    return "same" if told == told_other else "unlike"


def has_open(told):
    return any(["-" in signs for name, signs in told])


def need_fit(one, other):
    if one.inputs() != other.inputs():
        raise Unfit("inputs")
    if one.names() != other.names():
        raise Unfit("names")
    for name in one.names():
        if len(one.given(name)) != len(other.given(name)):
            raise Unfit(name)


def shows_same(one, other, thing):
    need_fit(one, other)
    many = one.inputs()
    if not isinstance(thing, list) or not all([is_text_of("01-", many, cube) for cube in thing]):
        return False
    return hole(thing, many) is None and all([looked(one, other, cube) == "same" for cube in thing])


def shows_unlike(one, other, thing):
    need_fit(one, other)
    # Where all inputs are known, so are all wires.
    return is_text_of("01", one.inputs(), thing) and looked(one, other, thing) == "unlike"
