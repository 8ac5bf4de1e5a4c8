"""Deeds: what units and lines may be told to do with their cells."""

from guessedzeros.kinds import is_number_in
from guessedzeros.plain import done
from guessedzeros.ways import WAYS

CELLS = 8

# How many cells stand in a deed, the one that it's told into first; behind them stands the way.
CELLS_IN = {"add": 3, "take": 3, "times": 3, "over": 3, "join": 4}


def is_deed(form, thing):
    if not isinstance(thing, tuple) or len(thing) < 3:
        return False
    op, *cells, last = thing
    if not isinstance(op, str) or not all([is_number_in(0, CELLS - 1, cell) for cell in cells]):
        return False
    if op == "put":
        return len(cells) == 1 and form.is_word(last)
    return CELLS_IN.get(op) == len(cells) and last in WAYS


def cell_of(deed):
    return deed[1]


def cells_read(deed):
    # Of put nothing stands between: there's no way behind its word.
    return list(deed[2:-1])


def outcome_by(form, deed, words):
    """The word and the flags of a deed that has read these words."""
    if deed[0] == "put":
        return deed[2], ()
    return done(form, deed[0], words, way=deed[-1])
