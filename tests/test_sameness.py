import itertools
import random
import unittest

from guessedzeros.cubes import hole
from guessedzeros.errors import TooMuch, Unfit
from guessedzeros.forms import Form
from guessedzeros.netparts import quick_sum_wires, sum_wires, times_wires
from guessedzeros.nets import Net
from guessedzeros.sameness import same, shows_same, shows_unlike
from guessedzeros.settled import settled
from guessedzeros.wired import wired_add, wired_guess
from tests.bench import drawn_net, state_of, wires_of_case, with_given
from tests.things import OTHER_KINDS, is_alike


def cubes_looked_at(one, other):
    """All cubes in the order in which they're looked at, each with what comes of it, up to the first unlike."""
    rows = []

    def look(cube):
        told, told_other = settled(one, cube), settled(other, cube)
        if "-" in "".join(signs for name, signs in told + told_other):
            rows.append((cube, "split"))
            return look(cube.replace("-", "0", 1)) and look(cube.replace("-", "1", 1))
        rows.append((cube, "kept" if told == told_other else "unlike"))
        return told == told_other

    look("-" * one.inputs())
    return rows


def told_by_hand(rows):
    if rows[-1][1] == "unlike":
        return "unlike", rows[-1][0].replace("-", "0")
    return "same", [cube for cube, found in rows if found == "kept"]


def bits_given(net, bits):
    wires = wires_of_case(net, [int(bit) for bit in bits])
    return [[wires[wire] for wire in net.given(name)] for name in sorted(net.names())]


def texts_of(many):
    return ["".join(bits) for bits in itertools.product("01", repeat=many)]


def summing(many, summed):
    net = Net(2 * many + 1)
    net.give("sum", summed(net, list(range(many)), list(range(many, 2 * many)), 2 * many))
    return net


def drawn_pair(drawn, inputs):
    """Two nets of one shape: of their own, or the same but for a little."""
    many = drawn.randrange(2, 14)
    shape = {"a": drawn.randrange(3), "B": 1, "": drawn.randrange(2)}
    nets = []
    for _ in range(2):
        net = drawn_net(drawn, inputs, many)
        for name, wires in shape.items():
            net.give(name, [drawn.randrange(inputs + many) for _ in range(wires)])
        nets.append(net)
    if drawn.random() < 0.6:
        nets[1] = turned_about(drawn, nets[0])
    return nets


def turned_about(drawn, net):
    """The same by other gates: each "both" by others, and the wires of the names turned twice."""
    other = Net(net.inputs())
    wires = list(range(net.inputs()))
    for kind, *told in net.gates():
        if kind == "fixed":
            wires.append(other.fixed(told[0]))
            continue
        handed = [wires[wire] for wire in told][::-1]
        if kind == "both" and drawn.random() < 0.7:
            turned = [other.other(wire) for wire in handed]
            wires.append(other.other(other.either(*turned)))
        else:
            wires.append(getattr(other, kind)(*handed))
    for name in net.names():
        other.give(name, [other.other(other.other(wires[wire])) for wire in net.given(name)])
    return other


class TestSame(unittest.TestCase):
    def check(self, one, other):
        rows = cubes_looked_at(one, other)
        due = told_by_hand(rows)
        before = state_of(one), state_of(other)
        self.assertTrue(is_alike(same(one, other, most=len(rows)), due))
        self.assertTrue(is_alike(same(one, other, most=2000), due))
        if len(rows) > 1:
            with self.assertRaises(TooMuch) as refused:
                same(one, other, most=len(rows) - 1)
            self.assertTrue(is_alike(refused.exception.what, len(rows) - 1))
        self.assertEqual((state_of(one), state_of(other)), before)
        is_same = all(bits_given(one, bits) == bits_given(other, bits) for bits in texts_of(one.inputs()))
        self.assertEqual(due[0], "same" if is_same else "unlike")
        self.assertIs(shows_same(one, other, due[1]), is_same)
        self.assertIs(shows_unlike(one, other, due[1]), not is_same)
        return due[0]

    def test_drawn_nets(self):
        drawn = random.Random(215)
        told = []
        for _ in range(120):
            told.append(self.check(*drawn_pair(drawn, drawn.randrange(1, 7))))
        self.assertGreater(told.count("same"), 30)
        self.assertGreater(told.count("unlike"), 30)

    def test_by_hand(self):
        one, other = Net(2), Net(2)
        one.give("x", [one.both(0, 1)])
        other.give("x", [other.other(other.either(other.other(0), other.other(1)))])
        self.assertTrue(is_alike(same(one, other), ("same", ["0-", "10", "11"])))
        third = Net(2)
        third.give("x", [third.either(0, 1)])
        self.assertTrue(is_alike(same(one, third), ("unlike", "01")))
        fourth = Net(2)
        fourth.give("x", [fourth.fixed(1)])
        # At "0-" one is settled: what is open there is 0 in the text.
        self.assertTrue(is_alike(same(one, fourth), ("unlike", "00")))
        self.assertTrue(is_alike(same(fourth, fourth), ("same", ["--"])))

    def test_no_names_and_names_of_no_wires(self):
        self.assertTrue(is_alike(same(Net(3), Net(3)), ("same", ["---"])))
        one, other = Net(12), Net(12)
        one.give("x", [])
        other.give("x", [])
        other.both(0, 1)
        self.assertTrue(is_alike(same(one, other, most=1), ("same", ["-" * 12])))

    def test_an_open_wire_of_either_net_splits(self):
        # The same bits, but open in the one net, in the other fixed: both ways about.
        one, other = Net(1), Net(1)
        one.give("x", [one.unlike(0, 0)])
        other.give("x", [other.fixed(0)])
        self.assertEqual(same(one, other), ("same", ["0", "1"]))
        self.assertEqual(same(other, one), ("same", ["0", "1"]))

    def test_most_left_out_is_400(self):
        # All texts are looked at: 2 ** 8 of them, with all that come ahead of them 511; of 7 inputs 255.
        for many, looked_at in ((7, 255), (8, 511)):
            net = Net(many)
            net.give("x", [many - 1])
            net.give("all", list(range(many)))
            self.assertEqual(len(cubes_looked_at(net, net)), looked_at)
            self.assertEqual(same(net, net, most=looked_at), ("same", texts_of(many)))
            if looked_at <= 400:
                self.assertEqual(same(net, net), ("same", texts_of(many)))
                continue
            with self.assertRaises(TooMuch) as refused:
                same(net, net)
            self.assertTrue(is_alike(refused.exception.what, 400))

    def test_just_400_and_one_more(self):
        # Of ten inputs that are all told, these two texts are looked at as the 400th and the 401st.
        for text, looked_at in (("0011000100", 400), ("0011000101", 401)):
            one, other = Net(10), Net(10)
            one.give("all", list(range(10)))
            one.give("there", [one.fixed(0)])
            there = other.fixed(1)
            for wire, sign in enumerate(text):
                there = other.both(there, wire if sign == "1" else other.other(wire))
            other.give("all", list(range(10)))
            other.give("there", [there])
            self.assertEqual(len(cubes_looked_at(one, other)), looked_at)
            self.assertEqual(same(one, other, most=looked_at), ("unlike", text))
            if looked_at == 400:
                self.assertEqual(same(one, other), ("unlike", text))
                continue
            with self.assertRaises(TooMuch) as refused:
                same(one, other)
            self.assertEqual(refused.exception.what, 400)

    def test_unlike_is_told_at_once(self):
        # They part at the very first text: so what would come behind isn't looked at.
        one, other = Net(12), Net(12)
        for net, first in ((one, 0), (other, 1)):
            none = net.fixed(1)
            for wire in range(12):
                none = net.both(none, net.other(wire))
            net.give("all", list(range(12)))
            net.give("first", [none if first else net.fixed(0)])
        self.assertEqual(same(one, other, most=13), ("unlike", "0" * 12))
        self.assertEqual(same(other, one), ("unlike", "0" * 12))
        with self.assertRaises(TooMuch) as refused:
            same(one, other, most=12)
        self.assertEqual(refused.exception.what, 12)

    def test_twelve_inputs_and_great_nets(self):
        one, other = Net(12), Net(12)
        for net, handed in ((one, (range(6), range(6, 12))), (other, (range(6, 12), range(6)))):
            wires = times_wires(net, *[list(wires) for wires in handed])
            net.give("some", [net.both(wires[0], wires[1])])
        kind, cubes = same(one, other, most=2000)
        self.assertEqual(kind, "same")
        self.assertEqual(cubes, told_by_hand(cubes_looked_at(one, other))[1])
        self.assertIsNone(hole(cubes, 12))
        if len(cubes) <= 400:
            self.assertIs(shows_same(one, other, cubes), True)

    def test_sums_by_both_parts(self):
        for many in (1, 2, 3, 4):
            self.assertEqual(self.check(summing(many, sum_wires), summing(many, quick_sum_wires)), "same")

    def test_wired_units(self):
        guess = wired_guess(3)
        self.assertEqual(self.check(guess, guess.like()), "same")
        add = wired_add(Form(2, 1))
        wires = add.given("flags")
        other = add.like()
        other = with_given(other, {"flags": wires[::-1]})
        self.assertEqual(same(add, other, most=2000)[0], "unlike")
        self.assertEqual(same(add, add.like(), most=2000), told_by_hand(cubes_looked_at(add, add)))

    def test_own_lists_and_most_by_its_name(self):
        net = summing(2, sum_wires)
        kept = same(net, net)
        same(net, net)[1].clear()
        self.assertEqual(same(net, net), kept)
        with self.assertRaises(TypeError):
            same(net, net, 400)


class TestUnfit(unittest.TestCase):
    def refused(self, one, other, what):
        before = state_of(one), state_of(other)
        asks = [lambda: same(one, other), lambda: same(one, other, most=1)]
        for thing in OTHER_KINDS + [0, ["-" * one.inputs()], "0" * one.inputs()]:
            asks.append(lambda thing=thing: shows_same(one, other, thing))
            asks.append(lambda thing=thing: shows_unlike(one, other, thing))
        for ask in asks:
            with self.assertRaises(Unfit) as told:
                ask()
            self.assertTrue(is_alike(told.exception.what, what))
        self.assertEqual((state_of(one), state_of(other)), before)

    def both_ways(self, one, other, what):
        self.refused(one, other, what)
        self.refused(other, one, what)

    def giving(self, many_inputs, **names):
        net = Net(many_inputs)
        for name, many in names.items():
            net.give(name, [0] * many)
        return net

    def test_inputs_first(self):
        self.both_ways(Net(2), Net(3), "inputs")
        self.both_ways(self.giving(2, a=1), self.giving(3, b=2), "inputs")
        self.both_ways(self.giving(1, a=1), self.giving(2, a=1), "inputs")

    def test_then_names(self):
        self.both_ways(self.giving(2, a=1), self.giving(2), "names")
        self.both_ways(self.giving(2, a=1), self.giving(2, b=1), "names")
        self.both_ways(self.giving(2, a=1, b=0), self.giving(2, a=2), "names")

    def test_then_the_first_name_rising(self):
        self.both_ways(self.giving(2, a=1), self.giving(2, a=2), "a")
        self.both_ways(self.giving(2, b=1, a=1), self.giving(2, a=1, b=0), "b")
        self.both_ways(self.giving(2, c=2, b=1, a=3), self.giving(2, b=0, a=3, c=1), "b")
        self.both_ways(self.giving(2, a=1, B=1), self.giving(2, a=0, B=0), "B")
        one, other = Net(1), Net(1)
        for net, many in ((one, 1), (other, 2)):
            net.give("9", [0] * many)
            net.give("10", [0] * many)
            net.give("inputs", [0] * many)
        self.both_ways(one, other, "10")

    def test_names_like_what_is_told(self):
        self.both_ways(self.giving(1, inputs=1), self.giving(1, inputs=0), "inputs")
        self.both_ways(self.giving(1, names=1), self.giving(1, names=0), "names")

    def test_gates_may_be_more_or_fewer(self):
        one, other = self.giving(2, a=1), self.giving(2, a=1)
        other.both(0, 1)
        self.assertEqual(same(one, other), ("same", ["0-", "1-"]))


class TestShowsSame(unittest.TestCase):
    def setUp(self):
        self.one, self.other = summing(1, sum_wires), summing(1, quick_sum_wires)
        self.cubes = same(self.one, self.other)[1]

    def shown(self, thing):
        before = state_of(self.one), state_of(self.other)
        told = shows_same(self.one, self.other, thing)
        self.assertIn(told, (True, False))
        self.assertIsInstance(told, bool)
        self.assertEqual((state_of(self.one), state_of(self.other)), before)
        return told

    def test_any_order_and_more_of_them(self):
        self.assertTrue(self.shown(self.cubes))
        self.assertTrue(self.shown(self.cubes[::-1]))
        self.assertTrue(self.shown(self.cubes + self.cubes))
        self.assertTrue(self.shown(texts_of(3)))
        self.assertTrue(self.shown(texts_of(3) + self.cubes))

    def test_only_a_list_is_a_list(self):
        self.assertFalse(self.shown(tuple(self.cubes)))
        self.assertFalse(self.shown("".join(self.cubes)))
        self.assertFalse(self.shown([self.cubes]))
        self.assertFalse(self.shown([tuple(cube) for cube in self.cubes]))
        self.assertFalse(self.shown([list(cube) for cube in self.cubes]))

    def test_left_out_twice_otherwise(self):
        for at, cube in enumerate(self.cubes):
            rest = self.cubes[:at] + self.cubes[at + 1:]
            self.assertFalse(self.shown(rest))
            self.assertFalse(self.shown(rest + rest[:1]))
            self.assertTrue(self.shown(rest + [cube, cube]))
            for place in range(3):
                for sign in "01- x2":
                    other = cube[:place] + sign + cube[place + 1:]
                    due = other == cube
                    self.assertEqual(self.shown(rest[:at] + [other] + rest[at:]), due, other)
            for other in [cube + "-", cube + "0", cube[1:], "", cube + " ", " " + cube[1:], 0, None, True, [cube]]:
                self.assertFalse(self.shown([other] + rest))
                # Too, where all the others do by themselves.
                self.assertFalse(self.shown(self.cubes + [other]), other)

    def test_an_open_sign_in_what_is_settled(self):
        self.assertFalse(self.shown(["---"]))
        self.assertFalse(self.shown(["0--", "1--"]))
        self.assertFalse(self.shown(self.cubes + ["0--"]))
        self.assertFalse(self.shown(self.cubes + ["---"]))
        # Open in one of both nets alone, either one.
        one, other = Net(1), Net(1)
        one.give("x", [one.unlike(0, 0)])
        other.give("x", [other.fixed(0)])
        for nets in ((one, other), (other, one)):
            self.assertIs(shows_same(*nets, ["-"]), False)
            self.assertIs(shows_same(*nets, ["0", "1"]), True)

    def test_open_alike_is_still_open(self):
        net = Net(1)
        net.give("x", [0])
        self.assertIs(shows_same(net, net, ["-"]), False)
        self.assertIs(shows_same(net, net, ["1", "0"]), True)

    def test_things_of_every_kind(self):
        for thing in OTHER_KINDS + [0, 1, -1, 10 ** 30, "---", ["---", None], [["---"]], ["000"] * 8]:
            self.assertFalse(self.shown(thing), thing)

    def test_nets_of_no_names(self):
        for thing in OTHER_KINDS + [0, "--", ("--",), [], ["-"], ["---"], ["0-"], ["0-", "11"]]:
            self.assertIs(shows_same(Net(2), Net(2), thing), False, thing)
        self.assertIs(shows_same(Net(2), Net(2), ["--"]), True)
        self.assertIs(shows_same(Net(2), Net(2), ["1-", "0-"]), True)
        self.assertIs(shows_same(Net(2), Net(2), ["10", "0-", "-1"]), True)

    def test_nets_that_part(self):
        third = with_given(self.other, {"sum": self.other.given("sum")[::-1]})
        self.assertIs(shows_same(self.one, third, texts_of(3)), False)
        self.assertIs(shows_same(self.one, third, self.cubes), False)
        # At one text alone.
        fourth = self.one.like()
        there = fourth.both(0, fourth.both(1, 2))
        fourth = with_given(fourth, {"sum": [fourth.unlike(there, wire) for wire in self.one.given("sum")]})
        self.assertIs(shows_same(self.one, fourth, texts_of(3)), False)
        self.assertIs(shows_same(self.one, fourth, texts_of(3)[:-1]), False)

    def test_what_is_asked_about_stays(self):
        thing = ["0--", ["1--"], (1, [2])]
        self.shown(thing)
        self.assertTrue(is_alike(thing, ["0--", ["1--"], (1, [2])]))
        kept = list(self.cubes)
        self.shown(self.cubes)
        self.assertEqual(self.cubes, kept)

    def test_400_cubes_of_twelve_inputs(self):
        net = Net(12)
        all_wires = net.fixed(1)
        for wire in range(8):
            all_wires = net.both(all_wires, wire)
        net.give("x", [all_wires])
        cubes = [text + "----" for text in texts_of(8)]
        self.assertIs(shows_same(net, net, cubes), True)
        self.assertIs(shows_same(net, net, (cubes + cubes)[:400]), True)
        self.assertIs(shows_same(net, net, cubes[1:]), False)
        self.assertIs(shows_same(net, net, ["-" * 12] + cubes), False)


class TestShowsUnlike(unittest.TestCase):
    def test_each_text(self):
        drawn = random.Random(217)
        for _ in range(40):
            one, other = drawn_pair(drawn, drawn.randrange(1, 6))
            for bits in texts_of(one.inputs()):
                due = bits_given(one, bits) != bits_given(other, bits)
                self.assertIs(shows_unlike(one, other, bits), due)
                self.assertIs(shows_unlike(other, one, bits), due)

    def test_other_texts_and_things(self):
        one, other = Net(2), Net(2)
        one.give("x", [one.fixed(0)])
        other.give("x", [other.fixed(1)])
        before = state_of(one), state_of(other)
        for bits in texts_of(2):
            self.assertIs(shows_unlike(one, other, bits), True)
        for thing in ["0", "000", "0-", "--", " 0", "0 ", "0x", "2", "21", "1\n", "", 0, 1, 3, -1, 10, 11]:
            self.assertIs(shows_unlike(one, other, thing), False, thing)
        for thing in OTHER_KINDS + [["00"], ("0", "0"), ["0", "0"], [0, 0], (1, 0)]:
            self.assertIs(shows_unlike(one, other, thing), False, thing)
        self.assertEqual((state_of(one), state_of(other)), before)

    def test_what_is_asked_about_stays(self):
        one = Net(2)
        thing = ["00", (1, [2])]
        shows_unlike(one, one, thing)
        self.assertTrue(is_alike(thing, ["00", (1, [2])]))

    def test_one_of_both_can_always_be_shown(self):
        drawn = random.Random(218)
        for _ in range(40):
            one, other = drawn_pair(drawn, drawn.randrange(1, 6))
            kind, paper = same(one, other)
            self.assertIs(shows_same(one, other, paper), kind == "same")
            self.assertIs(shows_unlike(one, other, paper), kind == "unlike")
            for bits in texts_of(one.inputs()):
                if kind == "same":
                    self.assertIs(shows_unlike(one, other, bits), False)
            if kind == "unlike":
                self.assertIs(shows_same(one, other, texts_of(one.inputs())), False)


if __name__ == "__main__":
    unittest.main()
