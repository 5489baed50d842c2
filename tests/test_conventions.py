"""Points 4 to 6: what holds for all functions of the interface."""

import copy
import importlib
import inspect
import unittest

from hiddenrates.certificates import certify_alike, certify_enough, certify_known, certify_needed, certify_rank
from hiddenrates.certificates import certify_renaming, certify_runs
from hiddenrates.checker import accepts
from hiddenrates.choices import fewest, shows_more, wider
from hiddenrates.console import fresh_console, said, told_all
from hiddenrates.division import quotient
from hiddenrates.joined import led_on, side_by_side
from hiddenrates.knowledge import columns_of, fields_of, knowledge, minor_of, taken_looks, unknowns_known
from hiddenrates.looks import look_polynomial, looks_of, slopes_of
from hiddenrates.nets import are_alike, is_net, kept_sums, looks_in, parting, seen_in, table_of
from hiddenrates.polynomials import is_fraction, is_polynomial, minus, number, plus, renamed, slope, times
from hiddenrates.polynomials import unknown_of, worth
from hiddenrates.renamings import led, led_polynomial, renamings
from hiddenrates.series import change, course, is_series, series_times, worth_along
from hiddenrates.tables import cofactors, determinant, is_table, own_rule, table_times, turned
from hiddenrates.texts import net_of, text_of
from hiddenrates.writings import read_polynomial, show_polynomial
from generic import MUG, TWINS
from samples import HALF, NIL, ONE, PAIR, THIRD

INTERFACE = {
    "nets": {
        "is_net": ["value"],
        "table_of": ["net", "assignment"],
        "seen_in": ["net", "assignment", "fillings"],
        "looks_in": ["net", "assignment", "many"],
        "are_alike": ["net", "one", "other"],
        "parting": ["net", "one", "other"],
        "kept_sums": ["net"],
    },
    "texts": {"text_of": ["net"], "net_of": ["text"]},
    "polynomials": {
        "is_fraction": ["value"],
        "is_polynomial": ["many", "value"],
        "number": ["many", "fraction"],
        "unknown_of": ["many", "unknown"],
        "plus": ["many", "one", "two"],
        "minus": ["many", "one", "two"],
        "times": ["many", "one", "two"],
        "slope": ["many", "one", "unknown"],
        "worth": ["many", "one", "assignment"],
        "renamed": ["many", "one", "order"],
    },
    "division": {"quotient": ["many", "one", "two"]},
    "writings": {"show_polynomial": ["many", "one"], "read_polynomial": ["many", "writing"]},
    "tables": {
        "is_table": ["many", "value"],
        "table_times": ["many", "table", "other"],
        "turned": ["many", "table"],
        "determinant": ["many", "table"],
        "cofactors": ["many", "table"],
        "own_rule": ["many", "table"],
    },
    "series": {
        "is_series": ["value"],
        "series_times": ["degree", "series", "other"],
        "worth_along": ["many", "one", "degree", "row"],
        "change": ["many", "field", "one"],
        "course": ["many", "field", "assignment", "degree"],
    },
    "looks": {"looks_of": ["net"], "look_polynomial": ["net", "look"], "slopes_of": ["net", "polynomial"]},
    "knowledge": {
        "taken_looks": ["net"],
        "columns_of": ["net"],
        "minor_of": ["net"],
        "fields_of": ["net"],
        "knowledge": ["net", "polynomial"],
        "unknowns_known": ["net"],
    },
    "choices": {
        "shows_more": ["net", "other"],
        "wider": ["net", "kind", "choice"],
        "fewest": ["net", "polynomial", "kind"],
    },
    "renamings": {
        "renamings": ["net"],
        "led": ["net", "renaming", "assignment"],
        "led_polynomial": ["net", "renaming", "polynomial"],
    },
    "joined": {"side_by_side": ["net", "other"], "led_on": ["net", "pipe", "other", "tank"]},
    "checker": {"accepts": ["claim", "paper"]},
    "certificates": {
        "certify_alike": ["net", "one", "other"],
        "certify_runs": ["net", "one", "other", "fillings"],
        "certify_known": ["net", "polynomial"],
        "certify_rank": ["net"],
        "certify_enough": ["net", "kind", "choice", "polynomial"],
        "certify_needed": ["net", "kind", "polynomial"],
        "certify_renaming": ["net", "tanks", "names"],
    },
    "console": {"fresh_console": [], "said": ["console", "line"], "told_all": ["console", "lines"]},
}

SQUARES = (((2, 0), (1, 1)), ((0, 1), (-1, 2)))
TABLE = ((HALF, THIRD), (HALF, (1, 6)))
X, Y, UNIT, LESS = (((1, 0), ONE),), (((0, 1), ONE),), (((0, 0), ONE),), (((0, 0), (-1, 1)),)
ROOT = ((X, UNIT), (Y, X))
SWAP = ((0, 2, 1), (1, 0))
SIP = (1, 0, ((0, None, HALF),), (0,), (0,))
EMPTY = ((None, (), (), (), 0), ())
CALLS = (
    (is_net, (PAIR,), True),
    (table_of, (PAIR, (HALF, THIRD)), TABLE),
    (seen_in, (PAIR, (HALF, THIRD), ((ONE,),)), (((0, 1),), (ONE,))),
    (looks_in, (PAIR, (HALF, THIRD), 2), (((ONE,),), ((HALF,),))),
    (are_alike, (PAIR, (HALF, THIRD), (HALF, HALF)), False),
    (parting, (PAIR, (HALF, THIRD), (HALF, HALF)), (2, 0, 0)),
    (kept_sums, (PAIR,), ()),
    (text_of, (PAIR,), "tanks 2\nunknowns 2\npipe 0 1 x0\npipe 1 0 x1\npipe 1 out 1/2\nfilled 0\nseen 0"),
    (net_of, ("tanks 1\nunknowns 0\nfilled 0\nseen 0",), (1, 0, (), (0,), (0,))),
    (is_fraction, (HALF,), True),
    (is_polynomial, (2, SQUARES), True),
    (number, (1, HALF), (((0,), HALF),)),
    (unknown_of, (1, 0), (((1,), ONE),)),
    (plus, (2, SQUARES, SQUARES), (((2, 0), (2, 1)), ((0, 1), (-1, 1)))),
    (minus, (2, SQUARES, SQUARES), ()),
    (times, (2, SQUARES, SQUARES), (((4, 0), ONE), ((2, 1), (-1, 1)), ((0, 2), (1, 4)))),
    (slope, (2, SQUARES, 0), (((1, 0), (2, 1)),)),
    (worth, (2, SQUARES, (HALF, (2, 1))), (-3, 4)),
    (renamed, (2, SQUARES, (1, 0)), (((0, 2), ONE), ((1, 0), (-1, 2)))),
    (quotient, (2, SQUARES, (((0, 0), (-2, 1)),)), (((2, 0), (-1, 2)), ((0, 1), (1, 4)))),
    (show_polynomial, (2, SQUARES), "x0^2 - 1/2 x1"),
    (read_polynomial, (2, " x0 x0 - 2/4 x1 "), SQUARES),
    (is_table, (2, ROOT), True),
    (table_times, (2, ((X, UNIT),), ((X,), ((((0, 1), (-1, 2)),),))), ((SQUARES,),)),
    (turned, (2, ROOT), ((X, Y), (UNIT, X))),
    (determinant, (2, ROOT), (((2, 0), ONE), ((0, 1), (-1, 1)))),
    (cofactors, (2, ROOT), ((X, LESS), ((((0, 1), (-1, 1)),), X))),
    (own_rule, (2, ROOT), ((((2, 0), ONE), ((0, 1), (-1, 1))), (((1, 0), (-2, 1)),))),
    (is_series, ((HALF, NIL),), True),
    (series_times, (1, (HALF, ONE), (THIRD, NIL)), ((1, 6), THIRD)),
    (worth_along, (2, SQUARES, 1, ((ONE, ONE), (ONE, (-1, 1)))), (HALF, (5, 2))),
    (change, (2, (X, UNIT), SQUARES), (((2, 0), (2, 1)), ((0, 0), (-1, 2)))),
    (course, (2, (X, UNIT), (ONE, HALF), 2), ((ONE, ONE, HALF), (HALF, ONE, NIL))),
    (looks_of, (MUG,), ((0, 0, 0), (1, 0, 0), (2, 0, 0), (3, 0, 0))),
    (look_polynomial, (MUG, (1, 0, 0)), (((1, 0), (-1, 1)), ((0, 1), (-1, 1)), ((0, 0), ONE))),
    (slopes_of, (MUG, SQUARES), ((((1, 0), (2, 1)),), (((0, 0), (-1, 2)),))),
    (taken_looks, (MUG,), ((1, 0, 0),)),
    (columns_of, (MUG,), (0,)),
    (minor_of, (MUG,), LESS),
    (fields_of, (MUG,), ((UNIT, LESS),)),
    (knowledge, (MUG, X), ("free", (UNIT, LESS))),
    (unknowns_known, (PAIR,), (0, 1)),
    (shows_more, (MUG, MUG), True),
    (wider, (MUG, "seen", (1,)), MUG[:4] + ((0, 1),)),
    (fewest, (MUG, X, "seen"), (1,)),
    (renamings, (TWINS,), (((0, 1, 2), (0, 1)), SWAP)),
    (led, (TWINS, SWAP, (HALF, THIRD)), (THIRD, HALF)),
    (led_polynomial, (TWINS, SWAP, SQUARES), (((0, 2), ONE), ((1, 0), (-1, 2)))),
    (side_by_side, (SIP, SIP), (2, 0, ((0, None, HALF), (1, None, HALF)), (0, 1), (0, 1))),
    (led_on, (SIP, 0, SIP, 0), (2, 0, ((0, 1, HALF), (1, None, HALF)), (0,), (0, 1))),
    (accepts, (("free", MUG, X), (UNIT, LESS)), True),
    (certify_alike, (MUG, (HALF, NIL), (NIL, HALF)), (("alike", MUG, (HALF, NIL), (NIL, HALF)), ())),
    (certify_runs, (MUG, (HALF, NIL), (NIL, ONE), ()), (("runs alike", MUG, (HALF, NIL), (NIL, ONE), ()), ())),
    (certify_known, (MUG, X), (("free", MUG, X), (UNIT, LESS))),
    (certify_rank, (MUG,), (("rank", MUG, 1), (((1, 0, 0),), ((UNIT, LESS),), (NIL, NIL)))),
    (certify_enough, (MUG, "filled", (), X), (("free", MUG, X), (UNIT, LESS))),
    (certify_needed, (MUG, "filled", X), (("needed", MUG, "filled", 2, X), (((1,), (UNIT, LESS)),))),
    (certify_renaming, (TWINS,) + SWAP, (("renaming", TWINS) + SWAP, ())),
    (fresh_console, (), EMPTY),
    (said, (EMPTY, "held"), (EMPTY, "no net yet")),
    (told_all, (EMPTY, ("held", "x")), (EMPTY, ("no net yet", "not understood"))),
)


def kinds_of(value):
    """The value with the kinds of all that is in it: True is unlike 1, a list unlike a tuple."""
    if type(value) in (tuple, list):
        return (type(value), [kinds_of(part) for part in value])
    return (type(value), value)


class Conventions(unittest.TestCase):
    def test_names_and_arguments(self):
        for module, functions in INTERFACE.items():
            told = importlib.import_module("hiddenrates." + module)
            for name, arguments in functions.items():
                function = getattr(told, name)
                self.assertTrue(inspect.isfunction(function), name)
                self.assertEqual(function.__module__, "hiddenrates." + module)
                self.assertEqual(list(inspect.signature(function).parameters), arguments)
        self.assertEqual(
            sorted(function.__name__ for function, _, _ in CALLS),
            sorted(name for functions in INTERFACE.values() for name in functions),
        )

    def test_by_position_and_by_name(self):
        for function, arguments, told in CALLS:
            names = list(inspect.signature(function).parameters)
            named = dict(zip(names, arguments))
            turned = {name: named[name] for name in reversed(names)}
            half = dict(list(named.items())[1:])
            for result in (function(*arguments), function(**named), function(**turned)):
                self.assertEqual(kinds_of(result), kinds_of(told), function.__name__)
            self.assertEqual(kinds_of(function(*arguments[:1], **half)), kinds_of(told))

    def test_equal_calls_equal_results_and_arguments_left(self):
        for function, arguments, told in CALLS:
            before = copy.deepcopy(arguments)
            first = function(*arguments)
            self.assertEqual(kinds_of(function(*copy.deepcopy(arguments))), kinds_of(first))
            self.assertEqual(kinds_of(arguments), kinds_of(before))

    def test_lists_that_are_refused_are_left(self):
        listed = [2, 0, [[0, 1, [1, 2]]], [0], [0]]
        before = copy.deepcopy(listed)
        self.assertFalse(is_net(listed))
        self.assertFalse(is_polynomial(1, listed))
        self.assertFalse(is_table(1, listed))
        self.assertFalse(is_series(listed))
        self.assertEqual(listed, before)

    def test_what_was_returned_may_be_passed(self):
        net = net_of(text_of(PAIR))
        self.assertEqual(text_of(net), text_of(PAIR))
        table = table_of(net, (HALF, THIRD))
        self.assertEqual(table_of(net, table[0]), table_of(net, (HALF, THIRD)))
        self.assertEqual(looks_in(net, (HALF, table[0][1]), 2), looks_in(PAIR, (HALF, THIRD), 2))
        share = worth(2, SQUARES, table[1])
        self.assertEqual(number(2, share), (((0, 0), (1, 6)),))
        told = read_polynomial(2, show_polynomial(2, quotient(2, times(2, SQUARES, X), X)))
        self.assertEqual(told, SQUARES)
        table = table_times(2, turned(2, ROOT), cofactors(2, ROOT))
        self.assertIs(is_table(2, (own_rule(2, table),)), True)
        field = table[0]
        row = course(2, field, (HALF, THIRD), 2)
        product = series_times(2, row[0], row[1])
        self.assertIs(is_series(product), True)
        self.assertEqual(worth_along(2, times(2, X, Y), 2, row), product)
        self.assertEqual(product[1], worth(2, change(2, field, times(2, X, Y)), (HALF, THIRD)))

    def test_what_knowledge_returned_may_be_passed(self):
        known = knowledge(PAIR, look_polynomial(PAIR, taken_looks(PAIR)[1]))
        self.assertEqual(times(2, known[1], known[2][1]), ())
        field = knowledge(MUG, X)[1]
        self.assertEqual(change(2, field, look_polynomial(MUG, looks_of(MUG)[3])), ())
        more = wider(MUG, "seen", fewest(MUG, X, "seen"))
        self.assertEqual(knowledge(more, X)[0], "known")
        for one in renamings(TWINS):
            self.assertEqual(led(TWINS, one, led(TWINS, one, (HALF, THIRD))), (HALF, THIRD))
            self.assertEqual(led_polynomial(TWINS, one, led_polynomial(TWINS, one, SQUARES)), SQUARES)

    def test_fractions_beyond_the_told_ones_are_told_by_runs(self):
        told = seen_in((1, 0, ((0, None, (1, 999)),), (0,), (0,)), (), ((ONE,),) + (((0, 1),),) * 29)
        # 998 / 999 is in lowest terms, and so are its powers.
        self.assertEqual(told[30], ((998 ** 29, 999 ** 29),))


if __name__ == "__main__":
    unittest.main()
