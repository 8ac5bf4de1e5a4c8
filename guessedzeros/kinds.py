"""What kind of thing was handed in."""


def is_number(thing):
    # Python counts True and False among its whole numbers; the document doesn't.
    return isinstance(thing, int) and not isinstance(thing, bool)


def is_number_in(least, greatest, thing):
    return is_number(thing) and least <= thing <= greatest
