"""Cubes: texts of 0, 1 and -, in each of which lie all texts of 0 and 1 that have its other signs."""

from guessedzeros.errors import NoPlace
from guessedzeros.running import all_cases
from guessedzeros.spelling import bits_text


def lies_in(bits, cube):
    # A text of bits is a cube in which it lies alone.
    return common(bits, cube) == bits


def common(one, other):
    if len(one) != len(other):
        return None
    signs = [common_sign(sign, other_sign) for sign, other_sign in zip(one, other)]
    return None if None in signs else "".join(signs)


def common_sign(sign, other_sign):
    if sign == "-":
        return other_sign
    return sign if other_sign in ("-", sign) else None


def split(cube, place):
    # Below 0, too: Python would count such a place from the end.
    if not 0 <= place < len(cube) or cube[place] != "-":
        raise NoPlace(place)
    ahead = cube[:place]
    behind = cube[place + 1:]
    return f"{ahead}0{behind}", f"{ahead}1{behind}"


def hole(cubes, many):
    values = all_cases(many)
    left = (1 << (1 << many)) - 1
    for cube in cubes:
        left &= ~cases_in(cube, values, many)
    if left == 0:
        return None
    # Cases rise as their texts do: the first one is the least bit that is left.
    return bits_text((left & -left).bit_length() - 1, many)


def cases_in(cube, values, many):
    """The number whose bit j tells whether the text of case j lies in the cube."""
    if len(cube) != many:
        return 0
    found = (1 << (1 << many)) - 1
    for sign, value in zip(cube, values):
        if sign == "1":
            found &= value
        elif sign == "0":
            found &= ~value
    return found
