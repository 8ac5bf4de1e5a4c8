"""Deeds that tests draw, and what they come to one behind the other, by fractions."""

from tests.exact import Exact
from tests.things import drawn_word

WAYS = ("near", "cut", "up", "down")
FLAGS = ("bad", "bynought", "over", "under", "rounded")
OPS = {"put": 0, "add": 2, "take": 2, "times": 2, "over": 2, "join": 3}


def drawn_deed(drawn, form, cells=8):
    """A drawn deed; with few cells deeds often read what the ones ahead of them tell."""
    op = drawn.choice(("put", "put", "add", "take", "times", "over", "join"))
    cell = drawn.randrange(cells)
    if op == "put":
        middle = form.word_of(0, form.bias(), 0)
        return "put", cell, drawn_word(drawn, form, drawn.choice((middle, middle, 0, form.greatest())))
    return (op, cell, *[drawn.randrange(cells) for _ in range(OPS[op])], drawn.choice(WAYS))


class Told:
    """What comes of deeds one behind the other: cells, flags and words that were read, behind each."""

    def __init__(self, form, deeds):
        self.exact = Exact(form)
        cells, flags = [0] * 8, ()
        self.cells, self.flags, self.words, self.outcomes = [list(cells)], [()], [], []
        for op, cell, *rest in deeds:
            if op == "put":
                words, outcome = [], (rest[0], ())
            else:
                words = [cells[at] for at in rest[:-1]]
                outcome = self.exact.done(op, words, rest[-1])
            cells[cell] = outcome[0]
            flags = tuple(flag for flag in FLAGS if flag in flags + outcome[1])
            self.cells.append(list(cells))
            self.flags.append(flags)
            self.words.append(words)
            self.outcomes.append(outcome)
