"""The plain unit with cells: one deed behind the other."""

from guessedzeros.deeds import CELLS, cell_of, cells_read, is_deed, outcome_by
from guessedzeros.errors import BadDeed
from guessedzeros.forms import Form
from guessedzeros.rounding import flags_together


class PlainUnit:
    """Eight cells, all flags so far, and how many deeds were done."""

    def __init__(self, form):
        # One of its own: what is handed in isn't kept to be read later.
        self.form = Form(form.scale, form.tail)
        self.words = [self.form.nought()] * CELLS
        self.flags = ()
        self.deed_count = 0

    def do(self, deed):
        if not is_deed(self.form, deed):
            raise BadDeed(deed)
        word, flags = outcome_by(self.form, deed, [self.words[cell] for cell in cells_read(deed)])
        self.end(deed, word, flags)
        return word, flags

    def end(self, deed, word, flags):
        """One deed more is done, which told this."""
        self.words[cell_of(deed)] = word
        self.flags = flags_together(self.flags, flags)
        self.deed_count += 1

    def cells(self):
        return list(self.words)

    def raised(self):
        return self.flags

    def many(self):
        return self.deed_count

    def like(self):
        twin = PlainUnit(self.form)
        twin.words = list(self.words)
        twin.flags = self.flags
        twin.deed_count = self.deed_count
        return twin

    def __eq__(self, other):
        return (isinstance(other, PlainUnit) and self.form == other.form and self.words == other.words
                and self.flags == other.flags and self.deed_count == other.deed_count)
