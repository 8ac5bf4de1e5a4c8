import random
import unittest

from guessedzeros.errors import NoName, NoWire, Taken
from guessedzeros.nets import Net
from tests.things import is_alike

PAIRED = ("both", "either", "unlike")


def shown(net):
    """All that a net tells, without a change of it."""
    wires = range(net.inputs() + len(net))
    return (net.inputs(), net.gates(), [net.depth(wire) for wire in wires], net.names(),
            [net.given(name) for name in net.names()], len(net))


def sample():
    net = Net(3)
    net.both(0, 1)
    net.either(3, 2)
    net.unlike(4, 0)
    net.other(5)
    net.fixed(1)
    net.give("word", [6, 5])
    net.give("flags", [])
    return net


class TestGates(unittest.TestCase):
    def test_each_kind(self):
        net = Net(2)
        self.assertTrue(is_alike(shown(net), (2, [], [0, 0], [], [], 0)))
        told = [net.both(0, 1), net.either(1, 0), net.unlike(0, 0), net.other(4), net.fixed(0), net.fixed(1)]
        self.assertTrue(is_alike(told, [2, 3, 4, 5, 6, 7]))
        self.assertTrue(is_alike(net.gates(), [
            ("both", 0, 1), ("either", 1, 0), ("unlike", 0, 0), ("other", 4), ("fixed", 0), ("fixed", 1)]))
        self.assertEqual(len(net), 6)
        self.assertTrue(is_alike(net.inputs(), 2))

    def test_numbers_of_wires(self):
        for many in range(1, 25):
            net = Net(many)
            self.assertTrue(is_alike(net.inputs(), many))
            self.assertEqual(len(net), 0)
            for at in range(5):
                self.assertTrue(is_alike(net.both(0, many + at - 1), many + at))
            self.assertEqual([net.depth(wire) for wire in range(many)], [0] * many)
            self.assertEqual(len(net), 5)

    def test_no_gates_is_still_a_net(self):
        net = Net(1)
        self.assertTrue(is_alike(net.gates(), []))
        self.assertEqual(net.like().inputs(), 1)


class TestDepth(unittest.TestCase):
    def test_by_hand(self):
        net = Net(2)
        one = net.both(0, 1)
        two = net.other(one)
        fixed = net.fixed(1)
        behind_fixed = net.either(fixed, 0)
        three = net.unlike(two, 0)
        four = net.either(1, three)
        told = [net.depth(wire) for wire in (0, 1, one, two, fixed, behind_fixed, three, four)]
        self.assertTrue(is_alike(told, [0, 0, 1, 2, 0, 1, 3, 4]))
        self.assertTrue(is_alike(net.depth(net.other(fixed)), 1))

    def test_a_long_chain(self):
        net = Net(1)
        wire = 0
        for many in range(1, 3001):
            wire = net.other(wire)
            if many % 500 == 0:
                self.assertEqual(net.depth(wire), many)
        self.assertEqual(len(net), 3000)
        self.assertEqual(net.like().depth(wire), 3000)

    def test_drawn(self):
        drawn = random.Random(161)
        net = Net(5)
        due = [0] * 5
        for _ in range(400):
            kind = drawn.choice(("both", "either", "unlike", "other", "fixed"))
            if kind == "fixed":
                wire = net.fixed(drawn.randrange(2))
                due.append(0)
            else:
                wires = [drawn.randrange(len(due)) for _ in range(1 if kind == "other" else 2)]
                wire = getattr(net, kind)(*wires)
                due.append(1 + max(due[each] for each in wires))
            self.assertEqual(wire, len(due) - 1)
        self.assertEqual([net.depth(wire) for wire in range(len(due))], due)

    def test_refused(self):
        net = sample()
        for wire in (8, 9, -1, -8, 1000):
            with self.assertRaises(NoWire) as told:
                net.depth(wire)
            self.assertTrue(is_alike(told.exception.what, wire))
        self.assertTrue(is_alike(shown(net), shown(sample())))


class TestNames(unittest.TestCase):
    def test_names_rise_and_wires_stay_in_order(self):
        net = Net(2)
        self.assertTrue(is_alike(net.names(), []))
        given = {"word": [1, 0, 1], "": [], "a b": [0], "Z": [1], "10": [0, 0], "9": [], "zeros": (1, 0)}
        for name, wires in given.items():
            self.assertIsNone(net.give(name, wires))
        self.assertTrue(is_alike(net.names(), ["", "10", "9", "Z", "a b", "word", "zeros"]))
        for name, wires in given.items():
            self.assertTrue(is_alike(net.given(name), list(wires)))
        self.assertEqual(len(net), 0)

    def test_taken_goes_first(self):
        net = sample()
        for name, wires in (("word", [0]), ("word", [6, 5]), ("word", []), ("word", [99]), ("flags", [-1])):
            with self.assertRaises(Taken) as told:
                net.give(name, wires)
            self.assertTrue(is_alike(told.exception.what, name))
            self.assertTrue(is_alike(shown(net), shown(sample())))

    def test_first_wire_that_is_not_there(self):
        net = sample()
        for wires, wire in (([8], 8), ([0, 7, 9, 8], 9), ((-1, 8), -1), ([7, 8, -1], 8), ([0, 0, -9], -9)):
            with self.assertRaises(NoWire) as told:
                net.give("new", wires)
            self.assertTrue(is_alike(told.exception.what, wire))
            self.assertTrue(is_alike(shown(net), shown(sample())))
        # Nothing of it was kept: the name is free.
        net.give("new", [7])
        self.assertEqual(net.given("new"), [7])

    def test_no_name(self):
        net = sample()
        for name in ("", "Word", "word ", "flag"):
            with self.assertRaises(NoName) as told:
                net.given(name)
            self.assertTrue(is_alike(told.exception.what, name))
        self.assertTrue(is_alike(shown(net), shown(sample())))


class TestRefusedGates(unittest.TestCase):
    def test_the_first_that_is_not_there(self):
        net = sample()
        for kind in PAIRED:
            for a, b, wire in ((8, 0, 8), (0, 8, 8), (9, 8, 9), (8, 9, 8), (-1, 0, -1), (0, -1, -1), (-1, -2, -1),
                               (-8, 9, -8), (100, 100, 100)):
                with self.assertRaises(NoWire) as told:
                    getattr(net, kind)(a, b)
                self.assertTrue(is_alike(told.exception.what, wire))
                self.assertTrue(is_alike(shown(net), shown(sample())))
        for wire in (8, -1, -8, 33):
            with self.assertRaises(NoWire) as told:
                net.other(wire)
            self.assertTrue(is_alike(told.exception.what, wire))
            self.assertTrue(is_alike(shown(net), shown(sample())))
        self.assertEqual(net.both(7, 7), 8)
        self.assertEqual(net.other(8), 9)


class TestOwn(unittest.TestCase):
    def test_told_lists_that_are_changed(self):
        net = sample()
        net.gates().clear()
        net.gates().append(("both", 0, 0))
        net.names().append("more")
        net.given("word").clear()
        net.given("flags").append(0)
        self.assertTrue(is_alike(shown(net), shown(sample())))

    def test_a_list_handed_in_and_changed_later(self):
        net = Net(3)
        wires = [0, 1]
        net.give("first", wires)
        wires.append(2)
        net.give("second", wires)
        wires[0] = 2
        net.give("third", wires)
        wires.clear()
        self.assertEqual([net.given(name) for name in net.names()], [[0, 1], [0, 1, 2], [2, 1, 2]])

    def test_what_is_handed_in_stays(self):
        net = sample()
        wires = [0, 7, 0]
        net.give("third", wires)
        self.assertEqual(wires, [0, 7, 0])
        told = net.given("third")
        net.give("fourth", told)
        told.clear()
        self.assertEqual(net.given("fourth"), [0, 7, 0])

    def test_like(self):
        net = sample()
        twin = net.like()
        self.assertIsInstance(twin, Net)
        self.assertTrue(is_alike(shown(twin), shown(net)))
        self.assertEqual(twin.both(0, 7), 8)
        twin.give("more", [8])
        self.assertTrue(is_alike(shown(net), shown(sample())))
        with self.assertRaises(NoWire):
            net.depth(8)
        self.assertEqual(net.other(7), 8)
        net.give("third", [0])
        self.assertEqual(twin.gates()[-1], ("both", 0, 7))
        self.assertEqual(twin.names(), ["flags", "more", "word"])
        self.assertEqual((len(twin), len(net)), (6, 6))
        self.assertTrue(is_alike(twin.depth(8), 1))
        self.assertTrue(is_alike(net.depth(8), 1))

    def test_two_do_the_same(self):
        self.assertTrue(is_alike(shown(sample()), shown(sample())))


if __name__ == "__main__":
    unittest.main()
