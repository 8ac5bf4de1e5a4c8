import itertools
import random
import unittest

from guessedzeros.cubes import common, hole, lies_in, split
from guessedzeros.errors import NoPlace
from tests.bench import bits_of
from tests.things import is_alike


def texts_of(many):
    """All texts of 0 and 1, as they rise."""
    return ["".join(signs) for signs in itertools.product("01", repeat=many)]


def cubes_of(many):
    return ["".join(signs) for signs in itertools.product("01-", repeat=many)]


def members(cube):
    """All texts that lie in it, as they rise; one by one, by its open places."""
    return ["".join(signs) for signs in itertools.product(*["01" if sign == "-" else sign for sign in cube])]


def hole_by_hand(cubes, many):
    covered = set()
    for cube in cubes:
        covered.update(members(cube))
    return next((text for text in texts_of(many) if text not in covered), None)


def drawn_cube(drawn, many, open_part):
    return "".join("-" if drawn.random() < open_part else drawn.choice("01") for _ in range(many))


class TestLiesIn(unittest.TestCase):
    def test_place_by_place(self):
        for many in range(1, 5):
            for cube in cubes_of(many):
                inside = set(members(cube))
                for bits in texts_of(many):
                    self.assertIs(lies_in(bits, cube), bits in inside, (bits, cube))

    def test_by_hand(self):
        self.assertIs(lies_in("010", "-1-"), True)
        self.assertIs(lies_in("010", "-1-"[::-1]), True)
        self.assertIs(lies_in("010", "0-1"), False)
        self.assertIs(lies_in("010", "---"), True)
        self.assertIs(lies_in("0", "1"), False)

    def test_as_many_as_the_cube_has(self):
        self.assertIs(lies_in("01", "01-"), False)
        self.assertIs(lies_in("010", "01"), False)
        self.assertIs(lies_in("0", "--"), False)

    def test_of_twelve(self):
        drawn = random.Random(203)
        for _ in range(300):
            cube = drawn_cube(drawn, 12, 0.5)
            bits = "".join(drawn.choice("01") if sign == "-" else sign for sign in cube)
            self.assertIs(lies_in(bits, cube), True)
            for at, sign in enumerate(cube):
                other = bits[:at] + "10"[int(bits[at])] + bits[at + 1:]
                self.assertIs(lies_in(other, cube), sign == "-")


class TestCommon(unittest.TestCase):
    def test_all_that_lie_in_both(self):
        for many in range(1, 4):
            for one, other in itertools.product(cubes_of(many), repeat=2):
                told = common(one, other)
                due = [text for text in members(one) if text in members(other)]
                self.assertEqual([] if told is None else members(told), due, (one, other))
                self.assertEqual(told, common(other, one))

    def test_by_hand(self):
        self.assertEqual(common("0-1-", "--10"), "0-10")
        self.assertEqual(common("-", "-"), "-")
        self.assertIsNone(common("0-1-", "1-1-"))
        self.assertIsNone(common("---1", "---0"))

    def test_of_twelve(self):
        drawn = random.Random(204)
        for _ in range(200):
            one, other = drawn_cube(drawn, 12, 0.8), drawn_cube(drawn, 12, 0.8)
            told = common(one, other)
            pairs = list(zip(one, other))
            if ("0", "1") in pairs or ("1", "0") in pairs:
                self.assertIsNone(told)
            else:
                self.assertEqual(told, "".join(min(pair, key=("0", "1", "-").index) for pair in pairs))


class TestSplit(unittest.TestCase):
    def test_each_place(self):
        for many in range(1, 5):
            for cube in cubes_of(many):
                for place in range(-many - 3, many + 4):
                    if 0 <= place < many and cube[place] == "-":
                        told = split(cube, place)
                        self.assertTrue(is_alike(told, tuple(
                            cube[:place] + sign + cube[place + 1:] for sign in "01")))
                        self.assertEqual(sorted(members(told[0]) + members(told[1])), members(cube))
                        continue
                    with self.assertRaises(NoPlace) as refused:
                        split(cube, place)
                    self.assertTrue(is_alike(refused.exception.what, place))

    def test_numbers_far_off(self):
        for place in (10 ** 30, -10 ** 30, 12, -12, -1):
            with self.assertRaises(NoPlace) as refused:
                split("-" * 12, place)
            self.assertEqual(refused.exception.what, place)

    def test_by_hand(self):
        self.assertEqual(split("0-1-", 1), ("001-", "011-"))
        self.assertEqual(split("0-1-", 3), ("0-10", "0-11"))
        self.assertEqual(split("-", 0), ("0", "1"))


class TestHole(unittest.TestCase):
    def test_no_cubes(self):
        for many in range(1, 13):
            self.assertEqual(hole([], many), "0" * many)
            self.assertEqual(hole((), many), "0" * many)

    def test_all_covered(self):
        for many in range(1, 13):
            self.assertIsNone(hole(["-" * many], many))
            self.assertIsNone(hole(["-" * (many - 1) + "1", "-" * (many - 1) + "0"], many))
            ladder = ["1" * at + "0" + "-" * (many - at - 1) for at in range(many)] + ["1" * many]
            self.assertIsNone(hole(ladder, many))

    def test_one_left_out(self):
        for many in range(1, 13):
            ladder = ["1" * at + "0" + "-" * (many - at - 1) for at in range(many)] + ["1" * many]
            for at, cube in enumerate(ladder):
                rest = ladder[:at] + ladder[at + 1:]
                self.assertEqual(hole(rest, many), cube.replace("-", "0"))
                self.assertEqual(hole(rest[::-1] + rest, many), cube.replace("-", "0"))

    def test_one_text_left(self):
        for many in range(1, 9):
            for bits in texts_of(many)[::7]:
                cubes = [bits[:at] + "10"[int(sign)] + "-" * (many - at - 1) for at, sign in enumerate(bits)]
                self.assertEqual(hole(cubes, many), bits)
                self.assertIsNone(hole([*cubes, bits], many))

    def test_all_lists_of_two_places(self):
        for size in range(4):
            for cubes in itertools.product(cubes_of(2), repeat=size):
                self.assertEqual(hole(cubes, 2), hole_by_hand(cubes, 2), cubes)

    def test_drawn(self):
        drawn = random.Random(205)
        told = set()
        for _ in range(400):
            many = drawn.randrange(1, 8)
            cubes = [drawn_cube(drawn, many, 0.6) for _ in range(drawn.randrange(1, 14))]
            found = hole(cubes, many)
            self.assertEqual(found, hole_by_hand(cubes, many), cubes)
            told.add(found)
        self.assertIn(None, told)
        self.assertGreater(len(told), 20)

    def test_twelve_places_and_400_cubes(self):
        drawn = random.Random(206)
        left = [drawn_cube(drawn, 12, 1)]
        while len(left) < 400:
            # Split at drawn places: all together they cover all, no text lies in two of them.
            cube = left.pop(drawn.choice([at for at, cube in enumerate(left) if "-" in cube]))
            place = drawn.choice([at for at, sign in enumerate(cube) if sign == "-"])
            left += [cube[:place] + sign + cube[place + 1:] for sign in "01"]
        drawn.shuffle(left)
        self.assertIsNone(hole(left, 12))
        for at in range(0, 400, 17):
            rest = left[:at] + left[at + 1:]
            self.assertEqual(hole(rest, 12), left[at].replace("-", "0"))
            # With one more twice, it's 400 again.
            self.assertEqual(hole(rest + rest[:1], 12), left[at].replace("-", "0"))
        for _ in range(10):
            out = sorted(drawn.sample(left, 3))
            rest = [cube for cube in left if cube not in out]
            self.assertEqual(hole(rest, 12), min(cube.replace("-", "0") for cube in out))

    def test_cubes_of_other_lengths_have_no_such_text(self):
        self.assertEqual(hole(["-", "---", ""], 2), "00")
        self.assertEqual(hole(["0-", "1", "1--", "10"], 2), "11")
        self.assertEqual(hole(["-" * 11, "-" * 13], 12), "0" * 12)

    def test_lists_and_tuples_stay(self):
        cubes = ["0-", "11"]
        self.assertEqual(hole(cubes, 2), "10")
        self.assertEqual(cubes, ["0-", "11"])
        self.assertEqual(hole(("0-", "11"), 2), "10")

    def test_each_single_text_in_turn(self):
        texts = ["".join(map(str, bits_of(number, 4))) for number in range(16)]
        for many in range(16):
            self.assertEqual(hole(texts[:many], 4), texts[many])
        self.assertIsNone(hole(texts, 4))


if __name__ == "__main__":
    unittest.main()
