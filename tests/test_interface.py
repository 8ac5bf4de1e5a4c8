"""Each listed name is defined in the file under which the interface lists it, with its arguments."""

import importlib
import inspect
import unittest

FUNCTIONS = {
    "spelling": {
        "spelled": "(form, word)", "word_in": "(form, text)", "worth_text": "(form, word)", "compared": "(form, a, b)"},
    "rounding": {
        "flags_together": "(one, other)", "cut_off": "(number, by)", "last_power": "(form, number, power)",
        "rounded": "(form, sign, number, power, *, way='near', more=False)"},
    "plain": {
        "added": "(form, a, b, *, way='near')", "taken": "(form, a, b, *, way='near')",
        "multiplied": "(form, a, b, *, way='near')", "divided": "(form, a, b, *, way='near')",
        "joined": "(form, a, b, c, *, way='near')", "done": "(form, op, words, *, way='near')"},
    "digits": {"digits_of": "(one, other, many)", "worth_of": "(digits)", "zeros_of": "(number, many)"},
    "guess": {"marks_of": "(digits)", "guess": "(one, other, many)", "mend": "(one, other, many)"},
    "cases": {
        "fits": "(case, digits)", "spread": "(case)", "cases_of": "(many)", "shows_cases": "(many, thing)"},
    "adding": {"add_steps": "(form, a, b, *, way='near')", "take_steps": "(form, a, b, *, way='near')"},
    "multiplying": {
        "fours_of": "(number)", "rows_of": "(one, number)", "saved": "(x, y, z)", "levels_of": "(rows)",
        "times_steps": "(form, a, b, *, way='near')"},
    "joining": {"join_steps": "(form, a, b, c, *, way='near')"},
    "running": {
        "ran": "(net, values, *, many=1)", "all_cases": "(many)", "one_case": "(net, word)"},
    "netparts": {
        "sum_wires": "(net, ones, others, carry)", "quick_sum_wires": "(net, ones, others, carry)",
        "shift_wires": "(net, ones, by)", "left_wires": "(net, ones, by)", "zero_wires": "(net, ones)",
        "mark_wires": "(net, ones, others)", "chosen_wires": "(net, wire, ones, others)",
        "is_less_wire": "(net, ones, others)", "raise_wires": "(net, ones, wire)",
        "times_wires": "(net, ones, others)"},
    "wired": {"wired_add": "(form)", "wired_times": "(form)", "wired_guess": "(many)"},
    "units": {
        "asked": "(net, form, a, b, *, way='near')", "first_unlike": "(net, form, op, *, way='near')"},
    "cubes": {
        "lies_in": "(bits, cube)", "common": "(one, other)", "split": "(cube, place)", "hole": "(cubes, many)"},
    "settled": {"settled": "(net, cube)"},
    "sameness": {
        "same": "(one, other, *, most=400)", "shows_same": "(one, other, thing)",
        "shows_unlike": "(one, other, thing)"},
    "deeds": {"is_deed": "(form, thing)"},
    "rows": {"row_in": "(form, text)"},
}
METHODS = {
    ("forms", "Form"): {
        "__init__": "(self, scale, tail)", "width": "(self)", "bias": "(self)", "top": "(self)",
        "parts": "(self, word)", "word_of": "(self, sign, scale, tail)", "is_word": "(self, thing)",
        "sort_of": "(self, word)", "nought": "(self, sign=0)", "endless": "(self, sign=0)",
        "greatest": "(self, sign=0)", "least_plain": "(self, sign=0)", "none_word": "(self)",
        "turned": "(self, word)", "worth": "(self, word)", "__eq__": "(self, other)",
        "__str__": "(self)", "__repr__": "(self)"},
    ("dividing", "Divider"): {
        "__init__": "(self, form, a, b, *, way='near', signed=False)", "step": "(self)", "digits": "(self)",
        "quotient": "(self)", "rest": "(self)", "divisor": "(self)", "left": "(self)", "outcome": "(self)",
        "like": "(self)"},
    ("nets", "Net"): {
        "__init__": "(self, many)", "both": "(self, a, b)", "either": "(self, a, b)", "unlike": "(self, a, b)",
        "other": "(self, a)", "fixed": "(self, bit)", "give": "(self, name, wires)", "given": "(self, name)",
        "names": "(self)", "inputs": "(self)", "gates": "(self)", "depth": "(self, wire)", "__len__": "(self)",
        "like": "(self)"},
    ("plainunit", "PlainUnit"): {
        "__init__": "(self, form)", "do": "(self, deed)", "cells": "(self)", "raised": "(self)", "many": "(self)",
        "like": "(self)", "__eq__": "(self, other)"},
    ("line", "Line"): {
        "__init__": "(self, form, *, quick=True)", "feed": "(self, deed)", "tick": "(self, *, held=())",
        "ticks": "(self)", "waiting": "(self)", "inside": "(self)", "words_of": "(self, number)",
        "steps_of": "(self, number)", "cells": "(self)", "raised": "(self)", "many": "(self)", "finished": "(self)",
        "empty": "(self, *, most=900)", "like": "(self)"},
    ("desk", "Desk"): {
        "__init__": "(self, form, *, quick=True)", "ask": "(self, row)",
        "run": "(self, rows, *, keep=False, deep=2)", "is_open": "(self)", "log": "(self)"},
}


class TestInterface(unittest.TestCase):
    def test_functions(self):
        for file, functions in FUNCTIONS.items():
            module = importlib.import_module("guessedzeros." + file)
            for name, arguments in functions.items():
                with self.subTest(file=file, name=name):
                    function = getattr(module, name)
                    self.assertEqual(function.__module__, module.__name__)
                    self.assertEqual(str(inspect.signature(function)), arguments)

    def test_methods(self):
        for (file, name), methods in METHODS.items():
            kind = getattr(importlib.import_module("guessedzeros." + file), name)
            self.assertEqual(kind.__module__, "guessedzeros." + file)
            for method, arguments in methods.items():
                with self.subTest(kind=name, method=method):
                    self.assertEqual(str(inspect.signature(vars(kind)[method])), arguments)


if __name__ == "__main__":
    unittest.main()
