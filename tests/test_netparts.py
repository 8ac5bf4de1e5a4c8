import random
import unittest

from guessedzeros.digits import digits_of
from guessedzeros.guess import marks_of
from guessedzeros.netparts import (
    chosen_wires, is_less_wire, left_wires, mark_wires, quick_sum_wires, raise_wires, shift_wires, sum_wires,
    times_wires, zero_wires)
from guessedzeros.nets import Net
from guessedzeros.running import all_cases, ran
from tests.bench import bits_of, drawn_net, number_of, numbers_in_cases, values_of
from tests.things import is_alike

# What each part is told in whole numbers, of the lengths and numbers of what is handed in: a list of
# (length, number), one for each list or wire that it tells. A lone wire is handed in as None of length.


def sum_due(lengths, one, other, carry):
    return [(lengths[0] + 1, one + other + carry)]


def shift_due(lengths, one, by):
    kept, rest = divmod(one, 2 ** by)
    return [(lengths[0], kept), (None, int(rest > 0))]


def left_due(lengths, one, by):
    return [(lengths[0], one * 2 ** by % 2 ** lengths[0])]


def zero_due(lengths, one):
    figures = bin(one)[2:].zfill(lengths[0])
    return [(len(bin(lengths[0])) - 2, (figures + "1").index("1"))]


def mark_due(lengths, one, other):
    return [(lengths[0], number_of(marks_of(digits_of(one, other, lengths[0]))))]


def chosen_due(lengths, wire, one, other):
    return [(lengths[1], one if wire else other)]


def less_due(lengths, one, other):
    return [(None, int(one < other))]


def raise_due(lengths, one, wire):
    return [(lengths[0] + 1, one + wire)]


def times_due(lengths, one, other):
    return [(lengths[0] + lengths[1], one * other)]


def lists_of_inputs(lengths):
    """The inputs in order, parted into lists, and lone wires."""
    lists, at = [], 0
    for length in lengths:
        lists.append(at if length is None else list(range(at, at + length)))
        at += 1 if length is None else length
    return lists, at


def as_lists(told):
    parts = told if isinstance(told, tuple) else (told,)
    return [part if isinstance(part, list) else [part] for part in parts]


def shape_of(told):
    parts = told if isinstance(told, tuple) else (told,)
    return [len(part) if isinstance(part, list) else None for part in parts]


class Checked(unittest.TestCase):
    def put(self, net, part, lists):
        """Puts the part in the net; nothing that was there may change."""
        gates = net.gates()
        depths = [net.depth(wire) for wire in range(net.inputs() + len(net))]
        given = [(name, net.given(name)) for name in net.names()]
        inputs = net.inputs()
        handed = [each if isinstance(each, int) else list(each) for each in lists]
        told = part(net, *handed)
        self.assertTrue(is_alike(handed, lists))
        self.assertTrue(is_alike(net.gates()[:len(gates)], gates))
        self.assertEqual([net.depth(wire) for wire in range(len(depths))], depths)
        self.assertTrue(is_alike([(name, net.given(name)) for name in net.names()], given))
        self.assertEqual(net.inputs(), inputs)
        for gate in net.gates()[len(gates):]:
            self.assertTrue(gate[0] != "fixed" or gate[1] in (0, 1), gate)
        for wires in as_lists(told):
            for wire in wires:
                self.assertIs(type(wire), int)
                self.assertTrue(0 <= wire < inputs + len(net))
        return told

    def run_holds(self, net, part, lists, due, values, many):
        told = self.put(net, part, lists)
        seen = net.like()
        for at, wires in enumerate(lists):
            seen.give("handed" + str(at), [wires] if isinstance(wires, int) else wires)
        for at, wires in enumerate(as_lists(told)):
            seen.give("told" + str(at), wires)
        numbers = {name: numbers_in_cases(row, many) for name, row in ran(seen, values, many=many)}
        lengths = [None if isinstance(wires, int) else len(wires) for wires in lists]
        for case in range(many):
            handed = [numbers["handed" + str(at)][case] for at in range(len(lists))]
            wanted = due(lengths, *handed)
            found = [numbers["told" + str(at)][case] for at in range(len(shape_of(told)))]
            if (shape_of(told), found) != ([length for length, _ in wanted], [number for _, number in wanted]):
                self.fail((part.__name__, lengths, handed, found, wanted))
        return told

    def all_hold(self, part, lengths, due):
        lists, inputs = lists_of_inputs(lengths)
        self.run_holds(Net(inputs), part, lists, due, all_cases(inputs), 2 ** inputs)

    def drawn_hold(self, drawn, part, lengths, due, many=60):
        """By inputs of drawn numbers, edges among them; then by wires within a net, some of them twice."""
        lists, inputs = lists_of_inputs(lengths)
        cases = []
        for _ in range(many):
            bits = []
            for length in lengths:
                bits += bits_of(self.number(drawn, length or 1), length or 1)
            cases.append(bits)
        self.run_holds(Net(inputs), part, lists, due, values_of(cases), many)
        net = drawn_net(drawn, drawn.randrange(1, 25), 80)
        net.give("there", [0, len(net)])
        wires = range(net.inputs() + len(net))
        lists = [drawn.choice(wires) if length is None else [drawn.choice(wires) for _ in range(length)]
                 for length in lengths]
        self.run_holds(net, part, lists, due, [drawn.getrandbits(many) for _ in range(net.inputs())], many)

    def number(self, drawn, length):
        top = 2 ** length - 1
        place = 2 ** drawn.randrange(length)
        return drawn.choice((drawn.getrandbits(length), drawn.getrandbits(length), 0, top, place, top ^ place,
                             place - 1, drawn.getrandbits(length) >> drawn.randrange(length)))

    def twice_hold(self, part, lengths, due):
        """All lists and wires are of the same few inputs, over and over."""
        for inputs in (1, 2, 3):
            lists = [0 if length is None else [at * at % inputs for at in range(length)] for length in lengths]
            self.run_holds(Net(inputs), part, lists, due, all_cases(inputs), 2 ** inputs)
        alike = [0 if length is None else list(range(length)) for length in lengths]
        inputs = max(length or 1 for length in lengths)
        cases = [bits_of(word % 2 ** inputs, inputs) for word in range(0, 9000, 61)]
        self.run_holds(Net(inputs), part, alike, due, values_of(cases), len(cases))

    def tuples_hold(self, part, lengths):
        """Tuples are taken as lists are, and what is told is the asker's own."""
        lists, inputs = lists_of_inputs(lengths)
        one, other, again = Net(inputs), Net(inputs), Net(inputs)
        handed = [each if isinstance(each, int) else tuple(each) for each in lists]
        told = part(one, *lists)
        self.assertTrue(is_alike(part(other, *handed), told))
        self.assertEqual(one.gates(), other.gates())
        for wires in as_lists(told):
            wires.append(0)
        self.assertTrue(is_alike(shape_of(part(again, *lists)), shape_of(part(other, *lists))))
        self.assertEqual(lists, lists_of_inputs(lengths)[0])
        self.assertEqual(again.gates(), one.gates())


class TestSums(Checked):
    def test_both_carries(self):
        for part in (sum_wires, quick_sum_wires):
            for length in range(1, 6):
                self.all_hold(part, (length, length, None), sum_due)

    def test_drawn(self):
        drawn = random.Random(181)
        for part in (sum_wires, quick_sum_wires):
            for length in range(1, 17):
                self.drawn_hold(drawn, part, (length, length, None), sum_due, many=100)
            for length in (1, 2, 5, 16):
                self.twice_hold(part, (length, length, None), sum_due)
                self.tuples_hold(part, (length, length, None))

    def test_carries_through_all(self):
        for part in (sum_wires, quick_sum_wires):
            for length in range(1, 17):
                top = 2 ** length - 1
                cases = [bits_of(one, length) + bits_of(top ^ one, length) + [carry]
                         for one in (0, 1, top, top // 3) for carry in (0, 1)]
                lists, inputs = lists_of_inputs((length, length, None))
                self.run_holds(Net(inputs), part, lists, sum_due, values_of(cases), len(cases))

    def test_quick_ones_are_not_deep(self):
        for length in range(1, 17):
            most = 4 + 4 * (len(bin(length)) - 2)
            lists, inputs = lists_of_inputs((length, length, None))
            for handed, many in ((lists, inputs), ([lists[0], lists[0], 0], length)):
                net = Net(many)
                told = self.put(net, quick_sum_wires, handed)
                self.assertLessEqual(max(net.depth(wire) for wire in told), most, length)


class TestShifts(Checked):
    def test_all_of_few(self):
        for part, due in ((shift_wires, shift_due), (left_wires, left_due)):
            for length in range(1, 8):
                for by in range(1, 5):
                    if length + by <= 10:
                        self.all_hold(part, (length, by), due)

    def test_by_more_wires_than_are_needed(self):
        for part, due in ((shift_wires, shift_due), (left_wires, left_due)):
            self.all_hold(part, (1, 8), due)
            self.all_hold(part, (3, 7), due)

    def test_every_amount(self):
        drawn = random.Random(182)
        for part, due in ((shift_wires, shift_due), (left_wires, left_due)):
            for length in range(1, 17):
                top = 2 ** length - 1
                cases = [bits_of(one, length) + bits_of(by, 6) for by in range(length + 3)
                         for one in (top, 1, 2 ** (length - 1), drawn.getrandbits(length), 0)]
                cases += [bits_of(drawn.getrandbits(length), length) + bits_of(by, 6) for by in (31, 32, 47, 63)]
                lists, inputs = lists_of_inputs((length, 6))
                self.run_holds(Net(inputs), part, lists, due, values_of(cases), len(cases))

    def test_drawn(self):
        drawn = random.Random(183)
        for part, due in ((shift_wires, shift_due), (left_wires, left_due)):
            for length in (1, 2, 3, 7, 8, 9, 15, 16):
                for by in (1, 3, 4, 5, 10, 16):
                    self.drawn_hold(drawn, part, (length, by), due)
            for lengths in ((1, 1), (4, 2), (5, 3), (16, 4), (16, 16)):
                self.twice_hold(part, lengths, due)
                self.tuples_hold(part, lengths)

    def test_kinds_of_what_is_told(self):
        net = Net(5)
        kept, more = shift_wires(net, [0, 1, 2], [3, 4])
        self.assertIsInstance(kept, list)
        self.assertIs(type(more), int)
        self.assertIsInstance(shift_wires(net, [0], [1]), tuple)
        self.assertIsInstance(left_wires(net, [0, 1, 2], [3, 4]), list)


class TestZeros(Checked):
    def test_all_of_few(self):
        for length in range(1, 12):
            self.all_hold(zero_wires, (length,), zero_due)

    def test_every_number_of_zeros(self):
        drawn = random.Random(184)
        for length in range(1, 17):
            cases = [bits_of(2 ** left - 1 - drawn.getrandbits(max(left - 1, 0)), length)
                     for left in range(length + 1) for _ in range(4)]
            lists, inputs = lists_of_inputs((length,))
            self.run_holds(Net(inputs), zero_wires, lists, zero_due, values_of(cases), len(cases))
            self.drawn_hold(drawn, zero_wires, (length,), zero_due)
            self.twice_hold(zero_wires, (length,), zero_due)
            self.tuples_hold(zero_wires, (length,))

    def test_how_many_wires(self):
        for length, many in ((1, 1), (2, 2), (3, 2), (4, 3), (7, 3), (8, 4), (15, 4), (16, 5)):
            self.assertEqual(len(zero_wires(Net(length), list(range(length)))), many)


class TestMarks(Checked):
    def test_all_of_few(self):
        for length in range(1, 6):
            self.all_hold(mark_wires, (length, length), mark_due)

    def test_drawn(self):
        drawn = random.Random(185)
        for length in range(1, 17):
            self.drawn_hold(drawn, mark_wires, (length, length), mark_due, many=150)
        for length in (1, 2, 5, 16):
            self.twice_hold(mark_wires, (length, length), mark_due)
            self.tuples_hold(mark_wires, (length, length))


class TestChosen(Checked):
    def test_all_of_few(self):
        for length in range(1, 6):
            self.all_hold(chosen_wires, (None, length, length), chosen_due)

    def test_drawn(self):
        drawn = random.Random(186)
        for length in range(1, 17):
            self.drawn_hold(drawn, chosen_wires, (None, length, length), chosen_due)
        for length in (1, 2, 5, 16):
            self.twice_hold(chosen_wires, (None, length, length), chosen_due)
            self.tuples_hold(chosen_wires, (None, length, length))


class TestLess(Checked):
    def test_all_of_few(self):
        for length in range(1, 6):
            self.all_hold(is_less_wire, (length, length), less_due)

    def test_drawn_and_next_to_each_other(self):
        drawn = random.Random(187)
        for length in range(1, 17):
            self.drawn_hold(drawn, is_less_wire, (length, length), less_due)
            top = 2 ** length - 1
            ones = [drawn.getrandbits(length) for _ in range(20)] + [0, top]
            cases = [bits_of(one, length) + bits_of(other, length) for one in ones
                     for other in (one, max(one - 1, 0), min(one + 1, top), one ^ 2 ** drawn.randrange(length))]
            lists, inputs = lists_of_inputs((length, length))
            self.run_holds(Net(inputs), is_less_wire, lists, less_due, values_of(cases), len(cases))
        for length in (1, 2, 5, 16):
            self.twice_hold(is_less_wire, (length, length), less_due)
            self.tuples_hold(is_less_wire, (length, length))

    def test_unlike_lengths(self):
        for lengths in ((1, 4), (4, 1), (3, 5), (6, 2)):
            self.all_hold(is_less_wire, lengths, less_due)
            self.tuples_hold(is_less_wire, lengths)


class TestRaised(Checked):
    def test_all_of_few(self):
        for length in range(1, 10):
            self.all_hold(raise_wires, (length, None), raise_due)

    def test_drawn(self):
        drawn = random.Random(188)
        for length in range(1, 17):
            self.drawn_hold(drawn, raise_wires, (length, None), raise_due)
            self.twice_hold(raise_wires, (length, None), raise_due)
            self.tuples_hold(raise_wires, (length, None))


class TestTimes(Checked):
    def test_all_of_few(self):
        for one in range(1, 8):
            for other in range(1, 8):
                if one + other <= 10:
                    self.all_hold(times_wires, (one, other), times_due)

    def test_drawn(self):
        drawn = random.Random(189)
        for lengths in ((1, 16), (16, 1), (3, 11), (11, 3), (8, 8), (12, 12), (13, 16), (16, 15), (16, 16)):
            self.drawn_hold(drawn, times_wires, lengths, times_due)
            self.tuples_hold(times_wires, lengths)
            self.twice_hold(times_wires, lengths, times_due)

    def test_within_the_bound_of_gates(self):
        net = Net(24)
        times_wires(net, list(range(16)), list(range(8, 24)))
        self.assertLessEqual(len(net), 3000)


class TestNoWires(Checked):
    def test_lists_without_a_wire(self):
        # Below the bounds: nothing is refused, and it is as if they were 0.
        self.all_hold(sum_wires, (0, 0, None), sum_due)
        self.all_hold(quick_sum_wires, (0, 0, None), sum_due)
        self.all_hold(raise_wires, (0, None), raise_due)
        for lengths in ((0, 2), (2, 0), (0, 0)):
            self.all_hold(shift_wires, lengths, shift_due)
            self.all_hold(left_wires, lengths, left_due)
            self.all_hold(times_wires, lengths, times_due)
            self.all_hold(is_less_wire, lengths, less_due)
        self.assertEqual(zero_wires(Net(1), []), [])
        self.assertEqual(mark_wires(Net(1), [], []), [])
        self.assertEqual(chosen_wires(Net(1), 0, [], []), [])


class TestTogether(Checked):
    def test_one_behind_the_other_in_one_net(self):
        # |one - other| by a sum of the turned one, raised: what one part tells the next one takes.
        net = Net(8)
        ones, others = [0, 1, 2, 3], [4, 5, 6, 7]
        less = is_less_wire(net, ones, others)
        greater = chosen_wires(net, less, others, ones)
        lesser = chosen_wires(net, less, ones, others)
        total = sum_wires(net, greater, [net.other(wire) for wire in lesser], net.fixed(1))[1:]
        net.give("apart", total)
        net.give("zeros", zero_wires(net, total))
        net.give("square", times_wires(net, total, total))
        told = dict(ran(net, all_cases(8), many=256))
        apart, zeros, square = [numbers_in_cases(told[name], 256) for name in ("apart", "zeros", "square")]
        for case in range(256):
            due = abs(case // 16 - case % 16)
            self.assertEqual((apart[case], zeros[case], square[case]), (due, 4 - due.bit_length(), due * due))


if __name__ == "__main__":
    unittest.main()
