"""Words as texts, and how two of them stand to each other."""

from guessedzeros.errors import BadText


def spelled(form, word):
    sign, scale, tail = form.parts(word)
    return f"{sign} {bits_text(scale, form.scale)} {bits_text(tail, form.tail)}"


def bits_text(number, many):
    return f"{number:b}".zfill(many)


def word_in(form, text):
    parts = text.split(" ")
    if [len(part) for part in parts] != [1, form.scale, form.tail]:
        raise BadText(text)
    word = 0
    for figure in "".join(parts):
        # Asked sign by sign: int() by itself would take other figures and signs, too.
        if figure not in ("0", "1"):
            raise BadText(text)
        word = 2 * word + int(figure)
    return word


def worth_text(form, word):
    sort = form.sort_of(word)
    if sort == "none":
        return "none"
    ahead = "-" if form.parts(word)[0] == 1 else ""
    if sort == "endless":
        return f"{ahead}endless"
    if sort == "nought":
        return f"{ahead}0"
    number, power = form.worth(word)
    while number % 2 == 0:
        number //= 2
        power += 1
    return f"{number}*2^{power}"


def compared(form, a, b):
    if "none" in (form.sort_of(a), form.sort_of(b)):
        return "none"
    one = rank_of(form, a)
    other = rank_of(form, b)
    if one == other:
        return "same"
    return "less" if one < other else "more"


def rank_of(form, word):
    size = size_of(form, word)
    return -size if form.parts(word)[0] == 1 else size


def size_of(form, word):
    # Without their signs words rise as their worths do, endless last; both noughts are 0.
    sign, scale, tail = form.parts(word)
    return form.word_of(0, scale, tail)
