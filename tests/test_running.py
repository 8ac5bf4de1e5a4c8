import random
import unittest

from guessedzeros.nets import Net
from guessedzeros.running import all_cases, one_case, ran
from tests.bench import bits_of, drawn_net, number_of, values_of, wires_of_case
from tests.things import is_alike


def drawn_giving(drawn, inputs, gates):
    net = drawn_net(drawn, inputs, gates)
    names = ["word", "flags", "", "Z", "a b", "9", "10"]
    drawn.shuffle(names)
    for name in names:
        net.give(name, [drawn.randrange(inputs + gates) for _ in range(drawn.choice((0, 1, 3, 7)))])
    return net


def told_by_hand(net, cases):
    """What is due of ran, of cases told by lists of bits; each is gone through by itself."""
    wires = [wires_of_case(net, bits) for bits in cases]
    return [(name, [number_of(reversed([case[wire] for case in wires])) for wire in net.given(name)])
            for name in sorted(net.names())]


class TestEachKind(unittest.TestCase):
    def test_all_cases_of_two(self):
        net = Net(2)
        net.give("both", [net.both(0, 1)])
        net.give("either", [net.either(0, 1)])
        net.give("unlike", [net.unlike(0, 1)])
        net.give("other", [net.other(0)])
        net.give("fixed", [net.fixed(0), net.fixed(1)])
        net.give("inputs", [1, 0])
        self.assertTrue(is_alike(ran(net, [12, 10], many=4), [
            ("both", [8]), ("either", [14]), ("fixed", [0, 15]), ("inputs", [10, 12]), ("other", [3]),
            ("unlike", [6])]))
        self.assertTrue(is_alike(one_case(net, 2), [
            ("both", 0), ("either", 1), ("fixed", 1), ("inputs", 1), ("other", 0), ("unlike", 1)]))
        self.assertTrue(is_alike(one_case(net, 1), [
            ("both", 0), ("either", 1), ("fixed", 1), ("inputs", 2), ("other", 1), ("unlike", 1)]))


class TestRan(unittest.TestCase):
    def test_case_by_case_and_at_once(self):
        drawn = random.Random(171)
        for _ in range(60):
            inputs = drawn.randrange(1, 8)
            net = drawn_giving(drawn, inputs, drawn.randrange(60))
            many = drawn.choice((1, 2, 5, 33))
            cases = [[drawn.randrange(2) for _ in range(inputs)] for _ in range(many)]
            due = told_by_hand(net, cases)
            self.assertTrue(is_alike(ran(net, values_of(cases), many=many), due))
            for at, bits in enumerate(cases):
                lone = [(name, [number >> at & 1 for number in numbers]) for name, numbers in due]
                self.assertTrue(is_alike(ran(net, bits), lone))
                self.assertTrue(is_alike(ran(net, bits, many=1), lone))
                numbers = [(name, number_of(told)) for name, told in lone]
                self.assertTrue(is_alike(one_case(net, number_of(bits)), numbers))

    def test_bits_beyond_are_passed_over(self):
        drawn = random.Random(172)
        for many in (1, 2, 3, 8, 64):
            net = drawn_giving(drawn, 4, 40)
            values = [drawn.getrandbits(many) for _ in range(4)]
            due = ran(net, values, many=many)
            more = [value + (drawn.getrandbits(90) << many) for value in values]
            self.assertTrue(is_alike(ran(net, more, many=many), due))
            for name, numbers in due:
                self.assertTrue(all(0 <= number < 2 ** many for number in numbers))

    def test_an_input_that_is_given_is_below_too(self):
        net = Net(1)
        net.give("all", [0, net.other(0), net.fixed(1), net.fixed(0)])
        self.assertTrue(is_alike(ran(net, [6], many=2), [("all", [2, 1, 3, 0])]))
        self.assertTrue(is_alike(ran(net, [6]), [("all", [0, 1, 1, 0])]))

    def test_names(self):
        net = Net(2)
        self.assertTrue(is_alike(ran(net, [1, 0]), []))
        self.assertTrue(is_alike(one_case(net, 3), []))
        net.give("b", [])
        net.give("B", [1, 0, 1])
        net.give("", [0])
        self.assertTrue(is_alike(ran(net, [1, 0]), [("", [1]), ("B", [0, 1, 0]), ("b", [])]))
        self.assertTrue(is_alike(one_case(net, 2), [("", 1), ("B", 2), ("b", 0)]))

    def test_what_is_handed_in_stays(self):
        drawn = random.Random(173)
        net = drawn_giving(drawn, 3, 20)
        before = (net.gates(), net.names(), [net.given(name) for name in net.names()])
        values = [13, 6, 30]
        told = ran(net, values, many=3)
        self.assertEqual(values, [13, 6, 30])
        self.assertTrue(is_alike(ran(net, (13, 6, 30), many=3), told))
        self.assertEqual(before, (net.gates(), net.names(), [net.given(name) for name in net.names()]))
        for name, numbers in told:
            numbers.append(1)
        told.clear()
        self.assertEqual(ran(net, values, many=3), told_by_hand(net, [(1, 0, 0), (0, 1, 1), (1, 1, 1)]))

    def test_many_by_its_name_alone(self):
        with self.assertRaises(TypeError):
            ran(Net(1), [1], 1)

    def test_great_net_and_many_cases(self):
        drawn = random.Random(174)
        net = drawn_giving(drawn, 24, 3000)
        net.give("all", list(range(24 + 3000)))
        values = [drawn.getrandbits(4096) for _ in range(24)]
        told = dict(ran(net, values, many=4096))
        for case in [0, 1, 2, 4094, 4095] + drawn.sample(range(4096), 40):
            due = wires_of_case(net, [value >> case & 1 for value in values])
            self.assertEqual([number >> case & 1 for number in told["all"]], due)
        self.assertTrue(all(0 <= number < 2 ** 4096 for number in told["all"]))
        word = drawn.getrandbits(24)
        due = wires_of_case(net, bits_of(word, 24))
        self.assertEqual(dict(one_case(net, word))["all"], number_of(due))


class TestAllCases(unittest.TestCase):
    def test_by_hand(self):
        self.assertTrue(is_alike(all_cases(1), [2]))
        self.assertTrue(is_alike(all_cases(2), [12, 10]))
        self.assertTrue(is_alike(all_cases(3), [240, 204, 170]))

    def test_each_case_of_1_to_12_inputs(self):
        for many in range(1, 13):
            told = all_cases(many)
            due = values_of([bits_of(case, many) for case in range(2 ** many)])
            self.assertTrue(is_alike(told, due), many)

    def test_run_by_them(self):
        drawn = random.Random(175)
        for inputs in range(1, 9):
            net = drawn_giving(drawn, inputs, 30)
            told = ran(net, all_cases(inputs), many=2 ** inputs)
            for case in range(2 ** inputs):
                due = [(name, number_of([number >> case & 1 for number in numbers])) for name, numbers in told]
                self.assertTrue(is_alike(one_case(net, case), due))

    def test_own_lists(self):
        all_cases(2).clear()
        self.assertEqual(all_cases(2), [12, 10])


class TestOneCase(unittest.TestCase):
    def test_the_first_input_is_the_greatest(self):
        for inputs in range(1, 25):
            net = Net(inputs)
            net.give("same", list(range(inputs)))
            net.give("turned", list(range(inputs))[::-1])
            net.give("first", [0])
            for word in (0, 1, 2 ** (inputs - 1), 2 ** inputs - 1, 0x5A5A5A % 2 ** inputs):
                bits = bits_of(word, inputs)
                due = [("first", bits[0]), ("same", word), ("turned", number_of(bits[::-1]))]
                self.assertTrue(is_alike(one_case(net, word), due), (inputs, word))


if __name__ == "__main__":
    unittest.main()
