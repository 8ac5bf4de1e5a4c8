"""The refusals: each stands by itself, and tells in its field `what` what is refused."""


class BadForm(ValueError):
    """No form has such a scale or tail; what is "scale" or "tail"."""

    def __init__(self, what):
        self.what = what


class BadText(ValueError):
    """A text that spells no word; what is the text."""

    def __init__(self, what):
        self.what = what


class BadRow(ValueError):
    """A row that the desk can't do; what is the row."""

    def __init__(self, what):
        self.what = what


class Unfit(ValueError):
    """Two nets that can't be held against each other; what is where they differ."""

    def __init__(self, what):
        self.what = what


class TooFew(ArithmeticError):
    """Too few bits are left to round by; what is their power."""

    def __init__(self, what):
        self.what = what


class NoStep(RuntimeError):
    """No digit of a division is left; what is how many there were."""

    def __init__(self, what):
        self.what = what


class Undone(RuntimeError):
    """A division isn't at its end; what is how many digits are left."""

    def __init__(self, what):
        self.what = what


class Busy(RuntimeError):
    """As many runs as may be are under way; what is how many."""

    def __init__(self, what):
        self.what = what


class NoWire(IndexError):
    """A net has no such wire; what is the wire."""

    def __init__(self, what):
        self.what = what


class NoPlace(IndexError):
    """A cube can't be split there; what is the place."""

    def __init__(self, what):
        self.what = what


class NoDeed(IndexError):
    """A line has no such deed; what is its number."""

    def __init__(self, what):
        self.what = what


class NoName(KeyError):
    """A net gives nothing by that name; what is the name."""

    def __init__(self, what):
        self.what = what


class NoStage(KeyError):
    """A line has no such stage; what is the stage."""

    def __init__(self, what):
        self.what = what


class Taken(LookupError):
    """A net gives something by that name already; what is the name."""

    def __init__(self, what):
        self.what = what


class BadDeed(TypeError):
    """A thing that is no deed; what is the thing."""

    def __init__(self, what):
        self.what = what


class TooMuch(OverflowError):
    """More cubes than allowed would be looked at; what is how many are."""

    def __init__(self, what):
        self.what = what


class Stuck(OverflowError):
    """More ticks than allowed would be needed; what is how many are."""

    def __init__(self, what):
        self.what = what
