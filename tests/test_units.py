import random
import unittest

from guessedzeros.forms import Form
from guessedzeros.plain import added, multiplied
from guessedzeros.units import asked, first_unlike
from guessedzeros.wired import wired_add, wired_times
from tests.bench import bits_of, rebuilt, state_of, with_given
from tests.exact import Exact
from tests.things import all_words, drawn_words, is_alike

WAYS = ("near", "cut", "up", "down")
# All of width 4 and 5.
SMALL = [Form(2, 1), Form(2, 2), Form(3, 1)]
UNITS = [(wired_add, "add", added), (wired_times, "times", multiplied)]


def first_by_hand(net, form, op, way):
    exact = Exact(form)
    for a in all_words(form):
        for b in all_words(form):
            if asked(net, form, a, b, way=way) != exact.done(op, (a, b), way):
                return a, b
    return None


def with_more(net):
    """The same, with names and gates more."""
    net = net.like()
    net.give("more", [net.both(0, 1), net.fixed(1)])
    net.give("", [])
    net.give("words", net.given("word"))
    return net


class TestAsked(unittest.TestCase):
    def test_by_every_way(self):
        drawn = random.Random(201)
        for form in (Form(2, 1), Form(3, 4), Form(4, 5)):
            for wired, op, plain in UNITS:
                net = wired(form)
                for _ in range(60):
                    a, b = drawn_words(drawn, form, 2)
                    for way in WAYS:
                        self.assertTrue(is_alike(asked(net, form, a, b, way=way), plain(form, a, b, way=way)))
                    self.assertTrue(is_alike(asked(net, form, a, b), plain(form, a, b)))

    def test_way_by_its_name_alone(self):
        form = Form(2, 1)
        with self.assertRaises(TypeError):
            asked(wired_add(form), form, 2, 3, "near")
        with self.assertRaises(TypeError):
            first_unlike(wired_add(form), form, "add", "near")

    def test_by_hand(self):
        form = Form(2, 1)
        net = wired_add(form)
        self.assertTrue(is_alike(asked(net, form, 2, 3), (4, ("rounded",))))
        self.assertTrue(is_alike(asked(net, form, 2, 3, way="up"), (5, ("rounded",))))
        self.assertTrue(is_alike(asked(net, form, 5, 5, way="cut"), (5, ("over", "rounded"))))
        self.assertTrue(is_alike(asked(net, form, 6, 14, way="down"), (7, ("bad",))))
        self.assertTrue(is_alike(asked(net, form, 2, 10, way="down"), (8, ())))
        self.assertTrue(is_alike(asked(net, form, 2, 10), (0, ())))

    def test_more_names_besides_and_nets_stay(self):
        form = Form(3, 2)
        for wired, op, plain in UNITS:
            net = with_more(wired(form))
            before = state_of(net)
            for a in range(0, 64, 5):
                for b in range(0, 64, 7):
                    self.assertEqual(asked(net, form, a, b, way="down"), plain(form, a, b, way="down"))
            self.assertEqual(state_of(net), before)
            self.assertEqual((form.scale, form.tail), (3, 2))

    def test_each_flag_in_its_place(self):
        form = Form(2, 1)
        net = wired_add(form)
        one, nought = net.fixed(1), net.fixed(0)
        flags = ("bad", "bynought", "over", "under", "rounded")
        for at, flag in enumerate(flags):
            wires = [nought] * at + [one] + [nought] * (4 - at)
            self.assertEqual(asked(with_given(net, {"flags": wires}), form, 2, 2), (4, (flag,)))
        self.assertEqual(asked(with_given(net, {"flags": [one] * 5}), form, 2, 2), (4, flags))

    def test_the_inputs_in_their_places(self):
        form = Form(2, 2)
        net = wired_add(form)
        # Words of the inputs themselves: a's, b's, and the way's two behind them.
        self.assertEqual(asked(with_given(net, {"word": [0, 1, 2, 3, 4]}), form, 0b10110, 9)[0], 0b10110)
        self.assertEqual(asked(with_given(net, {"word": [5, 6, 7, 8, 9]}), form, 9, 0b10110)[0], 0b10110)
        for at, way in enumerate(WAYS):
            self.assertEqual(asked(with_given(net, {"word": [10, 11]}), form, 3, 9, way=way)[0], at)


class TestFirstUnlike(unittest.TestCase):
    def test_none_of_the_wired_units(self):
        # One of width 6, too: a little beyond what has to be taken.
        for form in SMALL + [Form(3, 2)]:
            for wired, op, plain in UNITS:
                net = wired(form)
                self.assertIsNone(first_unlike(net, form, op))
                for way in WAYS:
                    self.assertIsNone(first_unlike(net, form, op, way=way))

    def test_none_with_more_names_and_nets_stay(self):
        for wired, op, plain in UNITS:
            net = with_more(wired(Form(2, 2)))
            before = state_of(net)
            self.assertIsNone(first_unlike(net, Form(2, 2), op, way="up"))
            self.assertEqual(state_of(net), before)

    def test_asked_for_the_other_one(self):
        for form in SMALL:
            for wired, op, plain in UNITS:
                other = {"add": "times", "times": "add"}[op]
                for way in WAYS:
                    found = first_unlike(wired(form), form, other, way=way)
                    self.assertTrue(is_alike(found, first_by_hand(wired(form), form, other, way)))
                    self.assertIsNotNone(found)

    def test_one_wire_otherwise(self):
        form = Form(2, 1)
        for wired, op, plain in UNITS:
            for name, many in (("word", 4), ("flags", 5)):
                for at in range(many):
                    net = wired(form)
                    wires = net.given(name)
                    wires[at] = net.other(wires[at])
                    self.assertEqual(first_unlike(with_given(net, {name: wires}), form, op, way="cut"), (0, 0))
                    # Otherwise in one pair alone: all inputs are those of a 11, b 6, by every way.
                    net = wired(form)
                    wires = net.given(name)
                    there = [wire if bit else net.other(wire) for wire, bit in enumerate(bits_of(11 << 4 | 6, 8))]
                    for wire in there[1:]:
                        there[0] = net.both(there[0], wire)
                    wires[at] = net.unlike(wires[at], there[0])
                    for way in WAYS:
                        found = first_unlike(with_given(net, {name: wires}), form, op, way=way)
                        self.assertTrue(is_alike(found, (11, 6)))

    def test_only_by_one_way(self):
        form = Form(2, 2)
        net = wired_times(form)
        wires = net.given("word")
        # The way's wires are 10 and 11: UP is 1 0.
        wires[4] = net.unlike(wires[4], net.both(10, net.other(11)))
        net = with_given(net, {"word": wires})
        for way in WAYS:
            self.assertEqual(first_unlike(net, form, "times", way=way), (0, 0) if way == "up" else None)
        self.assertIsNone(first_unlike(net, form, "times"))

    def test_one_gate_otherwise(self):
        drawn = random.Random(202)
        others = {"both": "either", "either": "unlike", "unlike": "both"}
        found = set()
        for form in SMALL[:2]:
            for wired, op, plain in UNITS:
                net = wired(form)
                gates = net.gates()
                for at in drawn.sample(range(len(gates)), 14):
                    kind, *told = gates[at]
                    changed = (others[kind], *told) if kind in others else ("fixed", 0) if kind == "other" else (
                        "fixed", 1 - told[0])
                    other = rebuilt(net, gates[:at] + [changed] + gates[at + 1:])
                    way = drawn.choice(WAYS)
                    first = first_unlike(other, form, op, way=way)
                    self.assertTrue(is_alike(first, first_by_hand(other, form, op, way)))
                    found.add(first)
        self.assertGreater(len(found), 10)


if __name__ == "__main__":
    unittest.main()
