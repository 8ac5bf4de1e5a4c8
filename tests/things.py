"""What several tests share: things of every kind, forms, and a strict comparison."""

from guessedzeros.forms import Form

# All words of these are gone through one by one.
SMALL_FORMS = [Form(2, 1), Form(2, 3), Form(3, 1), Form(3, 2), Form(4, 3)]
ALL_FORMS = [Form(scale, tail) for scale in range(2, 9) for tail in range(1, 25)]


def all_words(form):
    return range(2 ** (1 + form.scale + form.tail))


def deep(many):
    thing = 1
    for _ in range(many):
        thing = [thing]
    return thing


# Of every kind that may be asked about; none of them is a number.
OTHER_KINDS = [
    True, False, None, "", "0", "1", "12", " ", "near", [], (), [0], (0,), [1, 2], (1, 2),
    [True], (None,), ["0"], ("a", ["b"]), [[], ()], [[[1]]], (((1,),),), [1, [2, (3, [4])]],
    deep(6), ("", 0, 0), [("", 0, 0)], [["+", 0, 0]],
]


def is_alike(one, other):
    """Equality that tells True from 1, a list from a tuple, all the way down."""
    if type(one) is not type(other):
        return False
    if isinstance(one, (list, tuple)):
        return len(one) == len(other) and all(is_alike(a, b) for a, b in zip(one, other))
    return one == other
