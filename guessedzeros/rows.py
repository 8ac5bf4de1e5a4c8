"""Rows of a desk's sheet: texts of words, read into tuples."""

from guessedzeros.errors import BadRow, BadText
from guessedzeros.kinds import is_text_of
from guessedzeros.line import STAGES
from guessedzeros.spelling import word_in
from guessedzeros.ways import WAYS

MOST = 900

# What stands behind the first word is read word by word; where it isn't such a word, None is told.


def cell_in(form, text):
    return int(text) if is_text_of("01234567", 1, text) else None


def bits_in(form, text):
    parts = [text[:1], text[1:form.scale + 1], text[form.scale + 1:]]
    try:
        return word_in(form, " ".join(parts))
    except BadText:
        return None


def way_in(form, text):
    return text if text in WAYS else None


def number_in(form, text):
    # Asked sign by sign: int() by itself would take other figures and signs, too.
    if len(text) > len(str(MOST)) or text[:1] in ("", "0") or not is_text_of("0123456789", len(text), text):
        return None
    return int(text) if int(text) <= MOST else None


READERS = {
    "put": (cell_in, bits_in),
    "add": (cell_in, cell_in, cell_in, way_in),
    "take": (cell_in, cell_in, cell_in, way_in),
    "times": (cell_in, cell_in, cell_in, way_in),
    "over": (cell_in, cell_in, cell_in, way_in),
    "join": (cell_in, cell_in, cell_in, cell_in, way_in),
    "empty": (number_in,),
    "cell": (cell_in,),
    "whole": (cell_in,),
    "flags": (),
    "inside": (),
    "ticks": (),
    "again": (number_in,),
}


def row_in(form, text):
    name, *words = text.split(" ")
    told = tick_in(form, words) if name == "tick" else words_in(form, name, words)
    if None in told:
        raise BadRow(text)
    return (name, *told)


def words_in(form, name, words):
    """What the words behind the first one tell, with None among it where that's no such row."""
    if name not in READERS or len(words) != len(READERS[name]):
        return [None]
    told = []
    for reader, word in zip(READERS[name], words):
        told.append(reader(form, word))
    return told


def tick_in(form, words):
    if words == []:
        return [None]
    return [number_in(form, words[0]), stages_in(words[1:])]


def stages_in(words):
    if len(set(words)) != len(words) or not all([word in STAGES for word in words]):
        return None
    return tuple(words)
