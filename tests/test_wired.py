import itertools
import random
import unittest

from guessedzeros.forms import Form
from guessedzeros.nets import Net
from guessedzeros.plain import added, multiplied
from guessedzeros.running import all_cases, ran
from guessedzeros.wired import wired_add, wired_guess, wired_times
from tests.bench import bits_of, numbers_in_cases, state_of, values_of
from tests.exact import guess_by_hand
from tests.things import all_words, drawn_words

FORMS = [Form(scale, tail) for scale in range(2, 5) for tail in range(1, 6)]
UNITS = [(wired_add, added), (wired_times, multiplied)]
# As the wires of the way tell them, two bits each.
WAYS = ["near", "cut", "up", "down"]
FLAGS = ["bad", "bynought", "over", "under", "rounded"]
SORTS = {"nought", "small", "plain", "endless", "none"}


def told_at_once(net, form, cases):
    """(word, flags) for each (a, b, number of the way), run all at once."""
    width = form.scale + form.tail + 1
    rows = [bits_of(a, width) + bits_of(b, width) + bits_of(way, 2) for a, b, way in cases]
    told = dict(ran(net, values_of(rows), many=len(rows)))
    words = numbers_in_cases(told["word"], len(rows))
    flags = zip(*[bin(number)[2:].zfill(len(rows))[::-1] for number in told["flags"]])
    return [(word, tuple(flag for flag, bit in zip(FLAGS, bits) if bit == "1")) for word, bits in zip(words, flags)]


def words_about(drawn, form):
    """Two words of sorts that are hard on a unit."""
    many = 2 ** form.width()
    first = drawn.randrange(many)
    edges = [form.nought(), 1, form.least_plain() - 1, form.least_plain(), form.least_plain() + 1,
             form.greatest() - 1, form.greatest(), form.endless(), form.endless() + 1, form.none_word(),
             form.none_word() - 1, 2 ** (form.width() - 1) - 1, form.word_of(0, form.bias(), 0)]
    small = drawn.randrange(2 ** form.tail)
    pairs = [
        (first, first), (first, form.turned(first)), (form.turned(first), first + 1), (first, first - 1),
        (first, drawn.choice(edges)), (drawn.choice(edges), form.turned(drawn.choice(edges))),
        (small, drawn.randrange(2 ** form.tail)), (small, form.turned(first)), (small, form.greatest(first % 2)),
        tuple(drawn_words(drawn, form, 2)), tuple(drawn_words(drawn, form, 2)), (first, drawn.randrange(many))]
    a, b = drawn.choice(pairs)
    a, b = a % many, b % many
    return drawn.choice([(a, b), (b, a), (form.turned(a), form.turned(b)), (a, form.turned(b))])


class TestShapes(unittest.TestCase):
    def test_units(self):
        for form in FORMS + [Form(5, 2), Form(2, 6)]:
            for wired, plain in UNITS:
                net = wired(form)
                self.assertIsInstance(net, Net)
                self.assertEqual(net.inputs(), 2 * (form.scale + form.tail + 1) + 2)
                self.assertEqual(net.names(), ["flags", "word"])
                self.assertEqual(len(net.given("word")), form.scale + form.tail + 1)
                self.assertEqual(len(net.given("flags")), 5)

    def test_within_the_bounds_of_nets(self):
        for form in FORMS:
            for wired, plain in UNITS:
                net = wired(form)
                self.assertLessEqual(net.inputs(), 24)
                self.assertLessEqual(len(net), 3000)

    def test_fixed_wires_have_bits(self):
        nets = [wired(form) for form in FORMS for wired, plain in UNITS] + [wired_guess(many) for many in range(1, 13)]
        for net in nets:
            self.assertTrue({bit for kind, bit, *rest in net.gates() if kind == "fixed"} <= {0, 1})

    def test_guesses(self):
        for many in range(1, 13):
            net = wired_guess(many)
            self.assertIsInstance(net, Net)
            self.assertEqual(net.inputs(), 2 * many)
            self.assertEqual(net.names(), ["guess", "zeros"])
            for name in net.names():
                self.assertEqual(len(net.given(name)), len(bin(many)) - 2)
            self.assertLessEqual(len(net), 3000)

    def test_the_same_again_and_each_its_own(self):
        form = Form(3, 2)
        for make, handed in ((wired_add, form), (wired_times, form), (wired_guess, 5)):
            net = make(handed)
            kept = state_of(make(handed))
            self.assertEqual(state_of(net), kept)
            net.give("more", [net.fixed(1)])
            self.assertEqual(state_of(make(handed)), kept)
        self.assertEqual((form.scale, form.tail), (3, 2))


class TestUnits(unittest.TestCase):
    def check(self, form, cases):
        for wired, plain in UNITS:
            told = told_at_once(wired(form), form, cases)
            for (a, b, way), found in zip(cases, told):
                due = plain(form, a, b, way=WAYS[way])
                if found != due:
                    self.fail((plain.__name__, form, a, b, WAYS[way], found, due))

    def test_all_pairs_of_width_4_and_5(self):
        for form in FORMS:
            if form.width() <= 5:
                for way in range(4):
                    self.check(form, list(itertools.product(all_words(form), all_words(form), [way])))

    def test_drawn_pairs_of_greater_forms(self):
        drawn = random.Random(191)
        for form in FORMS:
            if form.width() > 5:
                pairs = {words_about(drawn, form) for _ in range(1500)}
                pairs = sorted(pairs)
                drawn.shuffle(pairs)
                cases = [(a, b, way) for a, b in pairs[:1024] for way in range(4)]
                self.check(form, cases)
                self.assertEqual({form.sort_of(word) for a, b, way in cases for word in (a, b)}, SORTS)

    def test_all_that_is_told_came_up(self):
        drawn = random.Random(192)
        for form in (Form(3, 3), Form(4, 5)):
            pairs = [words_about(drawn, form) for _ in range(3000)]
            told = [(plain, *plain(form, a, b)) for a, b in pairs for wired, plain in UNITS]
            found = {(plain.__name__, flags) for plain, word, flags in told}
            self.assertEqual(found, {
                ("added", ()), ("added", ("bad",)), ("added", ("rounded",)), ("added", ("over", "rounded")),
                ("multiplied", ()), ("multiplied", ("bad",)), ("multiplied", ("rounded",)),
                ("multiplied", ("over", "rounded")), ("multiplied", ("under", "rounded"))})

    def test_by_hand(self):
        form = Form(2, 1)
        # 1 and 1.5, 3 and 3, the greatest by itself, endless less endless, nought by endless.
        cases = [(2, 3, 0), (5, 5, 0), (5, 5, 1), (6, 14, 0), (0, 6, 0), (10, 2, 3), (10, 2, 0)]
        self.assertEqual(told_at_once(wired_add(form), form, cases), [
            (4, ("rounded",)), (6, ("over", "rounded")), (5, ("over", "rounded")), (7, ("bad",)), (6, ()),
            (8, ()), (0, ())])
        self.assertEqual(told_at_once(wired_times(form), form, cases), [
            (3, ()), (6, ("over", "rounded")), (5, ("over", "rounded")), (14, ()), (7, ("bad",)),
            (10, ()), (10, ())])


class TestGuesses(unittest.TestCase):
    def check(self, many, pairs, told):
        guesses, zeros = (numbers_in_cases(dict(told)[name], len(pairs)) for name in ("guess", "zeros"))
        for (one, other), guessed, zero in zip(pairs, guesses, zeros):
            size = abs(one - other)
            figures = bin(size)[2:] if size else ""
            self.assertEqual(guessed, guess_by_hand(one, other, many), (many, one, other))
            self.assertEqual(zero, many - len(figures), (many, one, other))
            self.assertIn(zero - guessed, (0, 1))

    def test_all_pairs_of_1_to_5_digits(self):
        for many in range(1, 6):
            pairs = list(itertools.product(range(2 ** many), repeat=2))
            self.check(many, pairs, ran(wired_guess(many), all_cases(2 * many), many=4 ** many))

    def test_drawn_pairs_of_6_to_12_digits(self):
        drawn = random.Random(193)
        for many in range(6, 13):
            pairs = []
            for _ in range(3000):
                one = drawn.getrandbits(many) >> drawn.randrange(many)
                by = drawn.choice((-1, 1)) * (drawn.getrandbits(many) >> drawn.randrange(many))
                pairs.append((one, drawn.choice((one + by, one ^ by, by)) % 2 ** many))
            pairs += [(0, 0), (2 ** many - 1, 2 ** many - 1), (2 ** many - 1, 0), (0, 2 ** many - 1),
                      (2 ** (many - 1), 2 ** (many - 1) - 1), (2 ** (many - 1) - 1, 2 ** (many - 1))]
            values = values_of([bits_of(one, many) + bits_of(other, many) for one, other in pairs])
            self.check(many, pairs, ran(wired_guess(many), values, many=len(pairs)))


if __name__ == "__main__":
    unittest.main()
