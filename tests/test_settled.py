import itertools
import random
import unittest

from guessedzeros.nets import Net
from guessedzeros.settled import settled
from tests.bench import drawn_net, state_of, wires_of_case
from tests.things import is_alike

# Every rule, sign by sign: first the one wire, then the other.
RULES = {
    "both": {"00": "0", "01": "0", "0-": "0", "10": "0", "11": "1", "1-": "-", "-0": "0", "-1": "-", "--": "-"},
    "either": {"00": "0", "01": "1", "0-": "-", "10": "1", "11": "1", "1-": "1", "-0": "-", "-1": "1", "--": "-"},
    "unlike": {"00": "0", "01": "1", "0-": "-", "10": "1", "11": "0", "1-": "-", "-0": "-", "-1": "-", "--": "-"},
    "other": {"0": "1", "1": "0", "-": "-"},
}


def wires_by_rules(net, cube):
    wires = list(cube)
    for kind, *told in net.gates():
        if kind == "fixed":
            wires.append(str(told[0]))
        else:
            wires.append(RULES[kind]["".join(wires[wire] for wire in told)])
    return wires


def drawn_giving(drawn, inputs, gates):
    net = drawn_net(drawn, inputs, gates)
    net.give("all", list(range(inputs + gates)))
    net.give("Some", [drawn.randrange(inputs + gates) for _ in range(5)])
    net.give("", [])
    net.give("b", [drawn.randrange(inputs + gates)])
    return net


def due_by_rules(net, cube):
    wires = wires_by_rules(net, cube)
    return [(name, "".join(wires[wire] for wire in net.given(name))) for name in sorted(net.names())]


class TestRules(unittest.TestCase):
    def test_each_kind(self):
        for kind in ("both", "either", "unlike"):
            net = Net(2)
            net.give("told", [getattr(net, kind)(0, 1)])
            for signs, due in RULES[kind].items():
                self.assertTrue(is_alike(settled(net, signs), [("told", due)]), (kind, signs))
        net = Net(1)
        net.give("told", [net.other(0)])
        for signs, due in RULES["other"].items():
            self.assertTrue(is_alike(settled(net, signs), [("told", due)]), signs)

    def test_inputs_and_fixed(self):
        net = Net(3)
        net.give("inputs", [2, 0, 1, 1])
        net.give("fixed", [net.fixed(1), net.fixed(0)])
        for cube in itertools.product("01-", repeat=3):
            a, b, c = cube
            self.assertEqual(settled(net, "".join(cube)), [("fixed", "10"), ("inputs", c + a + b + b)])

    def test_by_these_rules_alone(self):
        # Always 0, and always 1: but no rule tells it where the input is open.
        net = Net(1)
        net.give("never", [net.unlike(0, 0), net.both(0, net.other(0))])
        net.give("always", [net.either(0, net.other(0))])
        self.assertEqual(settled(net, "-"), [("always", "-"), ("never", "--")])
        self.assertEqual(settled(net, "0"), [("always", "1"), ("never", "00")])
        self.assertEqual(settled(net, "1"), [("always", "1"), ("never", "00")])

    def test_fixed_ones_rule_too(self):
        net = Net(1)
        one, nought = net.fixed(1), net.fixed(0)
        net.give("told", [
            net.both(0, nought), net.both(one, 0), net.either(0, one), net.either(nought, 0), net.unlike(0, one)])
        self.assertEqual(settled(net, "-"), [("told", "0-1--")])
        self.assertEqual(settled(net, "1"), [("told", "01110")])


class TestSettled(unittest.TestCase):
    def test_drawn_nets(self):
        drawn = random.Random(211)
        for _ in range(150):
            inputs = drawn.randrange(1, 13)
            net = drawn_giving(drawn, inputs, drawn.randrange(60))
            for _ in range(6):
                cube = "".join(drawn.choice("01-") for _ in range(inputs))
                self.assertTrue(is_alike(settled(net, cube), due_by_rules(net, cube)))

    def test_what_is_settled_holds_for_all_that_lie_in_it(self):
        drawn = random.Random(212)
        for _ in range(60):
            inputs = drawn.randrange(1, 6)
            net = drawn_giving(drawn, inputs, 25)
            cube = "".join(drawn.choice("01--") for _ in range(inputs))
            told = dict(settled(net, cube))["all"]
            for bits in itertools.product(*["01" if sign == "-" else sign for sign in cube]):
                wires = wires_of_case(net, [int(bit) for bit in bits])
                for sign, bit in zip(told, wires):
                    self.assertIn(sign, ("-", str(bit)))
                self.assertEqual(dict(settled(net, "".join(bits)))["all"], "".join(map(str, wires)))

    def test_names(self):
        net = Net(2)
        self.assertTrue(is_alike(settled(net, "-0"), []))
        net.give("b", [])
        net.give("B", [1, 0, 1])
        net.give("10", [0])
        net.give("9", [1])
        self.assertTrue(is_alike(settled(net, "-0"), [("10", "-"), ("9", "0"), ("B", "0-0"), ("b", "")]))

    def test_after_a_gate_and_a_name_more(self):
        net = Net(2)
        net.give("one", [net.both(0, 1)])
        self.assertEqual(settled(net, "1-"), [("one", "-")])
        wire = net.either(0, 1)
        self.assertEqual(settled(net, "1-"), [("one", "-")])
        net.give("more", [wire, 0])
        self.assertEqual(settled(net, "1-"), [("more", "11"), ("one", "-")])

    def test_nets_stay_and_lists_are_ones_own(self):
        drawn = random.Random(213)
        net = drawn_giving(drawn, 4, 20)
        before = state_of(net)
        told = settled(net, "1-0-")
        self.assertEqual(state_of(net), before)
        told.clear()
        self.assertEqual(settled(net, "1-0-"), due_by_rules(net, "1-0-"))

    def test_a_great_net(self):
        drawn = random.Random(214)
        net = drawn_giving(drawn, 12, 3000)
        for cube in ("-" * 12, "0" * 12, "01-" * 4):
            self.assertEqual(settled(net, cube), due_by_rules(net, cube))


if __name__ == "__main__":
    unittest.main()
