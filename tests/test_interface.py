"""The names of the interface: where they are defined, how their parameters are called."""

import importlib
import inspect
import re
import unittest

FUNCTIONS = {
    "ratios": """ratio_by(top, bottom=1) is_ratio(value) ratio_order(one, other) ratio_plus(one, other)
        ratio_minus(one, other) ratio_times(one, other) ratio_over(one, other) middle_ratio(one, other)
        ratio_text(one) read_ratio(text) simplest_ratio(low=None, high=None)""",
    "wishes": """wish_rings(bell, times=1) wish_ahead(one, other) wish_last(bell) wish_denied(wish) wish_met(wish)
        wish_both(one, other) wish_either(one, other) least_wish(wish, bells) same_wish(one, other, bells)""",
    "curves": """curve_of(values) is_curve(value) curve_plus(f, g) curve_scaled(f, n) curve_minus(f, g)
        curve_times(f, g) curve_slope(f) curve_moved(f, n) curve_after(f, g) curve_worth(f, one) curve_sign(f, one)
        first_sign(f) last_sign(f) curve_text(f) read_curve(text)""",
    "stairs": "stair_names(stair) is_timeless(stair) stair_depth(stair) tidy_stair(stair)",
    "cuts": """primitive_curve(f) common_curve(f, g) quotient_curve(f, g) plain_curve(f) curve_parts(f)
        sign_changes(f, low, high) cuts_of(f, low=None, high=None) cuts_hold(f, low, high, value)
        cut_count(f, low, high, cuts) count_zeros(f, low=None, high=None)""",
    "told": "told_fault(rows) told_curves(rows) least_degree(row)",
}

CLASSES = {
    ("wishes", "Wish", "(states, good, steps)"): {
        "rung_bells": "(self)", "after": "(self, state, lot)", "end": "(self, tale, state=0)",
        "takes": "(self, tale)", "__eq__": "(self, other)",
    },
    ("stairs", "Stair", "(rows)"): {"__str__": "(self)", "__eq__": "(self, other)"},
}

ERRORS = {
    "InvalidCurve": "at", "InvalidPlace": "at", "InvalidTable": "at", "InvalidOrder": "at", "InvalidHall": "at",
    "InvalidText": "at", "InvalidSaying": "at", "InvalidSpans": "at", "InvalidRule": "at", "InvalidTurns": "at",
    "InvalidWish": "at", "InvalidGame": "at", "InvalidRooms": "at", "InvalidHeard": "at", "Refused": "at",
    "InvalidSize": "word",
}


def module_of(name):
    return importlib.import_module("curvebells." + name)


class TestInterface(unittest.TestCase):

    def test_functions(self):
        for name, text in FUNCTIONS.items():
            module = module_of(name)
            for word, parameters in re.findall(r"(\w+)(\([^)]*\))", text):
                function = getattr(module, word)
                self.assertEqual(str(inspect.signature(function)), parameters, word)
                self.assertEqual(function.__module__, "curvebells." + name)

    def test_classes(self):
        for (name, word, parameters), methods in CLASSES.items():
            made = getattr(module_of(name), word)
            self.assertEqual(made.__module__, "curvebells." + name)
            self.assertEqual(str(inspect.signature(made)), parameters)
            for method, told in methods.items():
                self.assertIn(method, vars(made))
                self.assertEqual(str(inspect.signature(vars(made)[method])), told)

    def test_stair_read(self):
        made = module_of("stairs").Stair
        self.assertIn("read", vars(made))
        self.assertEqual(str(inspect.signature(made.read)), "(text)")


class TestErrors(unittest.TestCase):

    def test_classes(self):
        errors = module_of("errors")
        self.assertEqual(errors.BellError.__bases__, (Exception,))
        for name in list(ERRORS) + ["InvalidCommand"]:
            self.assertEqual(getattr(errors, name).__bases__, (errors.BellError,), name)
        self.assertEqual(errors.NoName.__bases__, (KeyError,))
        for name in list(ERRORS) + ["InvalidCommand", "NoName", "BellError"]:
            self.assertEqual(getattr(errors, name).__module__, "curvebells.errors")

    def test_kept_arguments(self):
        errors = module_of("errors")
        kept = [3]
        for name, attribute in list(ERRORS.items()) + [("NoName", "name")]:
            for error in (getattr(errors, name)(kept), getattr(errors, name)(**{attribute: kept})):
                self.assertIs(getattr(error, attribute), kept)
                self.assertEqual(str(inspect.signature(getattr(errors, name))), "(" + attribute + ")")
        self.assertIsInstance(errors.InvalidCommand(), errors.BellError)

    def test_any_things_are_kept(self):
        errors = module_of("errors")
        for thing in (None, (None, 1), ("things", -1), "n", -1, {}, [[]]):
            self.assertIs(errors.InvalidHall(thing).at, thing)
            self.assertIs(errors.InvalidSize(word=thing).word, thing)
            self.assertIs(errors.NoName(thing).name, thing)

    def test_no_name_is_no_bell_error(self):
        errors = module_of("errors")
        self.assertFalse(issubclass(errors.NoName, errors.BellError))
        with self.assertRaises(KeyError):
            raise errors.NoName("cat")


if __name__ == "__main__":
    unittest.main()
