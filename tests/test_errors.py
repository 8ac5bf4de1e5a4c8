import unittest

from guessedzeros import errors

BASES = {
    ValueError: ["BadForm", "BadText", "BadRow", "Unfit"],
    ArithmeticError: ["TooFew"],
    RuntimeError: ["NoStep", "Undone", "Busy"],
    IndexError: ["NoWire", "NoPlace", "NoDeed"],
    KeyError: ["NoName", "NoStage"],
    LookupError: ["Taken"],
    TypeError: ["BadDeed"],
    OverflowError: ["TooMuch", "Stuck"],
}
CLASSES = {name: getattr(errors, name) for names in BASES.values() for name in names}


class TestErrors(unittest.TestCase):
    def test_each_stands_straight_under_its_base(self):
        for base, names in BASES.items():
            for name in names:
                with self.subTest(name):
                    self.assertEqual(CLASSES[name].__bases__, (base,))

    def test_defined_here_by_its_own_name(self):
        for name, kind in CLASSES.items():
            with self.subTest(name):
                self.assertEqual((kind.__module__, kind.__name__), ("guessedzeros.errors", name))

    def test_none_is_under_another(self):
        self.assertEqual(len(set(CLASSES.values())), 17)
        for one in CLASSES.values():
            for other in CLASSES.values():
                if one is not other:
                    self.assertFalse(issubclass(one, other), (one, other))

    def test_no_other_refusals_are_there(self):
        found = {name for name, kind in vars(errors).items() if isinstance(kind, type)}
        self.assertEqual(found, set(CLASSES))

    def test_made_with_what_as_the_one_field(self):
        for name, kind in CLASSES.items():
            for what in ("scale", "", 0, -7, None, True, ("add", 0), ["x"]):
                with self.subTest(name, what=what):
                    refusal = kind(what)
                    self.assertEqual(vars(refusal), {"what": what})
                    self.assertIs(type(refusal.what), type(what))

    def test_caught_by_its_base_with_its_field(self):
        for base, names in BASES.items():
            for name in names:
                with self.subTest(name), self.assertRaises(base) as told:
                    raise CLASSES[name]("this")
                self.assertEqual(told.exception.what, "this")

    def test_not_made_without_what(self):
        for kind in CLASSES.values():
            with self.assertRaises(TypeError) as told:
                kind()
            self.assertIs(type(told.exception), TypeError)


if __name__ == "__main__":
    unittest.main()
