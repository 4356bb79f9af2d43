"""The examples of the document, as they stand there."""

import doctest
import unittest

RATIOS_AND_CUTS = """
    >>> from curvebells.curves import curve_after, curve_moved
    >>> from curvebells.cuts import common_curve, curve_parts, cut_count, cuts_hold, plain_curve, sign_changes
    >>> from curvebells.ratios import simplest_ratio
    >>> simplest_ratio((1, 3), (1, 2)), simplest_ratio(None, (-7, 2)), simplest_ratio((1, 2), (1, 2))
    ((2, 5), (-4, 1), None)
    >>> curve_moved((0, 0, 1), -3), curve_after((-2, 1), (0, 0, 1))
    ((9, -6, 1), (-2, 0, 1))
    >>> plain_curve((0, 2, -4, 2)), curve_parts((0, 2, -4, 2)), common_curve((-1, 0, 1), (2, 2))
    ((0, -1, 1), ((1, (0, 1)), (2, (-1, 1))), (1, 1))
    >>> sign_changes((-2, 0, 1), (1, 1), (2, 1)), sign_changes((2, -2, 1), (0, 1), None)
    (1, 2)
    >>> cuts_hold((2, -2, 1), (0, 1), None, ((1, 1),)), cut_count((2, -2, 1), (0, 1), None, ((1, 1),))
    (True, 0)
"""

TOLD = """
    >>> from curvebells.told import least_degree, told_curves, told_fault
    >>> told_curves([(-1, 0, 1), (1, 0, 1)]), least_degree((1, 0, 1))
    (((-1, 1), (1, -2, 1)), 2)
    >>> told_fault([(1, 1, -1)]), told_fault([(1, 1, 1), (0, 0, 0)])
    ((0, 1), (None, 1))
"""

WISHES = """
    >>> from curvebells.wishes import same_wish, wish_ahead, wish_rings
    >>> same_wish(wish_ahead("x", "y"), wish_rings("x"), ["x", "y"])
    (False, (('x', 'y'),))
"""


def suite_of(name, text):
    test = doctest.DocTestParser().get_doctest(text, {}, name, None, 0)
    return doctest.DocTestCase(test)


def load_tests(loader, tests, pattern):
    suite = unittest.TestSuite()
    suite.addTest(suite_of("ratios and cuts", RATIOS_AND_CUTS))
    suite.addTest(suite_of("told", TOLD))
    suite.addTest(suite_of("wishes", WISHES))
    return suite


if __name__ == "__main__":
    unittest.main()
