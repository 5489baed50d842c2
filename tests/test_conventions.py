"""Points 4 to 6: what holds for all functions of the interface."""

import copy
import importlib
import inspect
import unittest

from hiddenrates.nets import are_alike, is_net, kept_sums, looks_in, parting, seen_in, table_of
from hiddenrates.polynomials import is_fraction, is_polynomial, minus, number, plus, renamed, slope, times
from hiddenrates.polynomials import unknown_of, worth
from hiddenrates.texts import net_of, text_of
from samples import HALF, ONE, PAIR, THIRD

INTERFACE = {
    "nets": {
        "is_net": ["value"],
        "table_of": ["net", "assignment"],
        "seen_in": ["net", "assignment", "fillings"],
        "looks_in": ["net", "assignment", "many"],
        "are_alike": ["net", "one", "other"],
        "parting": ["net", "one", "other"],
        "kept_sums": ["net"],
    },
    "texts": {"text_of": ["net"], "net_of": ["text"]},
    "polynomials": {
        "is_fraction": ["value"],
        "is_polynomial": ["many", "value"],
        "number": ["many", "fraction"],
        "unknown_of": ["many", "unknown"],
        "plus": ["many", "one", "two"],
        "minus": ["many", "one", "two"],
        "times": ["many", "one", "two"],
        "slope": ["many", "one", "unknown"],
        "worth": ["many", "one", "assignment"],
        "renamed": ["many", "one", "order"],
    },
}

SQUARES = (((2, 0), (1, 1)), ((0, 1), (-1, 2)))
TABLE = ((HALF, THIRD), (HALF, (1, 6)))
CALLS = (
    (is_net, (PAIR,), True),
    (table_of, (PAIR, (HALF, THIRD)), TABLE),
    (seen_in, (PAIR, (HALF, THIRD), ((ONE,),)), (((0, 1),), (ONE,))),
    (looks_in, (PAIR, (HALF, THIRD), 2), (((ONE,),), ((HALF,),))),
    (are_alike, (PAIR, (HALF, THIRD), (HALF, HALF)), False),
    (parting, (PAIR, (HALF, THIRD), (HALF, HALF)), (2, 0, 0)),
    (kept_sums, (PAIR,), ()),
    (text_of, (PAIR,), "tanks 2\nunknowns 2\npipe 0 1 x0\npipe 1 0 x1\npipe 1 out 1/2\nfilled 0\nseen 0"),
    (net_of, ("tanks 1\nunknowns 0\nfilled 0\nseen 0",), (1, 0, (), (0,), (0,))),
    (is_fraction, (HALF,), True),
    (is_polynomial, (2, SQUARES), True),
    (number, (1, HALF), (((0,), HALF),)),
    (unknown_of, (1, 0), (((1,), ONE),)),
    (plus, (2, SQUARES, SQUARES), (((2, 0), (2, 1)), ((0, 1), (-1, 1)))),
    (minus, (2, SQUARES, SQUARES), ()),
    (times, (2, SQUARES, SQUARES), (((4, 0), ONE), ((2, 1), (-1, 1)), ((0, 2), (1, 4)))),
    (slope, (2, SQUARES, 0), (((1, 0), (2, 1)),)),
    (worth, (2, SQUARES, (HALF, (2, 1))), (-3, 4)),
    (renamed, (2, SQUARES, (1, 0)), (((0, 2), ONE), ((1, 0), (-1, 2)))),
)


def kinds_of(value):
    """The value with the kinds of all that is in it: True is unlike 1, a list unlike a tuple."""
    if type(value) in (tuple, list):
        return (type(value), [kinds_of(part) for part in value])
    return (type(value), value)


class Conventions(unittest.TestCase):
    def test_names_and_arguments(self):
        for module, functions in INTERFACE.items():
            told = importlib.import_module("hiddenrates." + module)
            for name, arguments in functions.items():
                function = getattr(told, name)
                self.assertTrue(inspect.isfunction(function), name)
                self.assertEqual(function.__module__, "hiddenrates." + module)
                self.assertEqual(list(inspect.signature(function).parameters), arguments)
        self.assertEqual(
            sorted(function.__name__ for function, _, _ in CALLS),
            sorted(name for functions in INTERFACE.values() for name in functions),
        )

    def test_by_position_and_by_name(self):
        for function, arguments, told in CALLS:
            names = list(inspect.signature(function).parameters)
            named = dict(zip(names, arguments))
            turned = {name: named[name] for name in reversed(names)}
            half = dict(list(named.items())[1:])
            for result in (function(*arguments), function(**named), function(**turned)):
                self.assertEqual(kinds_of(result), kinds_of(told), function.__name__)
            self.assertEqual(kinds_of(function(arguments[0], **half)), kinds_of(told))

    def test_equal_calls_equal_results_and_arguments_left(self):
        for function, arguments, told in CALLS:
            before = copy.deepcopy(arguments)
            first = function(*arguments)
            self.assertEqual(kinds_of(function(*copy.deepcopy(arguments))), kinds_of(first))
            self.assertEqual(kinds_of(arguments), kinds_of(before))

    def test_lists_that_are_refused_are_left(self):
        listed = [2, 0, [[0, 1, [1, 2]]], [0], [0]]
        before = copy.deepcopy(listed)
        self.assertFalse(is_net(listed))
        self.assertFalse(is_polynomial(1, listed))
        self.assertEqual(listed, before)

    def test_what_was_returned_may_be_passed(self):
        net = net_of(text_of(PAIR))
        self.assertEqual(text_of(net), text_of(PAIR))
        table = table_of(net, (HALF, THIRD))
        self.assertEqual(table_of(net, table[0]), table_of(net, (HALF, THIRD)))
        self.assertEqual(looks_in(net, (HALF, table[0][1]), 2), looks_in(PAIR, (HALF, THIRD), 2))
        share = worth(2, SQUARES, table[1])
        self.assertEqual(number(2, share), (((0, 0), (1, 6)),))

    def test_fractions_beyond_the_told_ones_are_told_by_runs(self):
        told = seen_in((1, 0, ((0, None, (1, 999)),), (0,), (0,)), (), ((ONE,),) + (((0, 1),),) * 29)
        # 998 / 999 is in lowest terms, and so are its powers.
        self.assertEqual(told[30], ((998 ** 29, 999 ** 29),))


if __name__ == "__main__":
    unittest.main()
