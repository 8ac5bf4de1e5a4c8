"""What several tests share: things of every kind, forms, and a strict comparison."""

from guessedzeros.forms import Form

# All words of these are gone through one by one.
SMALL_FORMS = [Form(2, 1), Form(2, 3), Form(3, 1), Form(3, 2), Form(4, 3)]
ALL_FORMS = [Form(scale, tail) for scale in range(2, 9) for tail in range(1, 25)]


def all_words(form):
    return range(2 ** (1 + form.scale + form.tail))


# With those of the greatest bounds.
GREAT_FORMS = [Form(5, 10), Form(8, 23), Form(8, 24), Form(2, 24), Form(8, 1), Form(6, 9)]


def drawn_word(drawn, form, near):
    """A drawn word: of all, of the edges, or close by scale to another one."""
    kind = drawn.randrange(6)
    if kind == 0:
        word = drawn.choice((form.nought(), form.endless(), form.greatest(), form.least_plain(), 1))
        return form.turned(word) if drawn.random() < 0.5 else word
    if kind in (1, 2):
        return drawn.randrange(2 ** form.width())
    scale = form.parts(near)[1] + drawn.randrange(-form.tail - 3, form.tail + 4)
    tail = drawn.getrandbits(form.tail) >> drawn.choice((0, form.tail // 2))
    return form.word_of(drawn.randrange(2), min(max(scale, 0), form.top() - 1), tail)


def drawn_words(drawn, form, many):
    """So many drawn words, the first in the midst or at an end, the others often close to it."""
    middle = form.word_of(0, form.bias(), 0)
    first = drawn_word(drawn, form, drawn.choice((middle, 0, form.greatest())))
    return [first] + [drawn_word(drawn, form, first) for _ in range(many - 1)]


def deep(many):
    thing = 1
    for _ in range(many):
        thing = [thing]
    return thing


# Of every kind that may be asked about; none of them is a number.
OTHER_KINDS = [
    True, False, None, "", "0", "1", "12", " ", "near", [], (), [0], (0,), [1, 2], (1, 2),
    [True], (None,), ["0"], ("a", ["b"]), [[], ()], [[[1]]], (((1,),),), [1, [2, (3, [4])]],
    deep(6), ("", 0, 0), [("", 0, 0)], [["+", 0, 0]],
]


def is_alike(one, other):
    """Equality that tells True from 1, a list from a tuple, all the way down."""
    if type(one) is not type(other):
        return False
    if isinstance(one, (list, tuple)):
        return len(one) == len(other) and all(is_alike(a, b) for a, b in zip(one, other))
    return one == other
