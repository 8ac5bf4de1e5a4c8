"""What kind of thing was handed in."""


def is_number(thing):
    # Python counts True and False among its whole numbers; the document doesn't.
    return isinstance(thing, int) and not isinstance(thing, bool)


def is_number_in(least, greatest, thing):
    return is_number(thing) and least <= thing <= greatest


def is_text_of(signs, many, thing):
    """Whether it's a text of so many of these signs."""
    return isinstance(thing, str) and len(thing) == many and all([sign in signs for sign in thing])
