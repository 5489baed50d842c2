"""Things that several tests share: sample nets, values of all kinds, and fractions by Python's own."""

import unittest
from fractions import Fraction

NIL, ONE, HALF, THIRD = (0, 1), (1, 1), (1, 2), (1, 3)

PAIR = (2, 2, ((0, 1, ("x", 0)), (1, 0, ("x", 1)), (1, None, HALF)), (0,), (0,))
RING = (3, 1, ((0, 1, ("x", 0)), (1, 2, ("x", 0)), (2, None, NIL)), (0,), (2,))
# The unknowns of the chain may be exchanged: only their sum and their product are seen.
CHAIN = (3, 2, ((0, 1, ("x", 0)), (1, 2, ("x", 1))), (0,), (2,))
WIDE = (
    3,
    4,
    (
        (0, 1, ("x", 0)),
        (0, 1, ("x", 1)),
        (1, 2, ("x", 2)),
        (2, 0, (-3, 7)),
        (2, None, ("x", 3)),
        (1, None, ("x", 0)),
        (0, 2, (5, 4)),
    ),
    (0, 2),
    (0, 1, 2),
)
BARE = (1, 0, (), (0,), (0,))
NETS = (PAIR, RING, CHAIN, WIDE, BARE)


class Prickly:
    """A thing that cannot be compared, measured or gone through."""

    def __eq__(self, other):
        raise AssertionError("compared")

    def __len__(self):
        raise AssertionError("measured")

    def __iter__(self):
        raise AssertionError("gone through")

    def __bool__(self):
        raise AssertionError("tested")

    __hash__ = None


def nested(depth, inside):
    """INSIDE within DEPTH tuples."""
    for _ in range(depth):
        inside = (inside,)
    return inside


THINGS = (
    None,
    True,
    False,
    -1,
    10 ** 399,
    "",
    "x",
    "tanks 1",
    b"",
    b"x",
    [],
    [1, 2],
    {},
    {1: 2},
    set(),
    frozenset([1]),
    object(),
    Prickly(),
    (Prickly(),),
    (Prickly(), Prickly()),
    (Prickly(),) * 3,
    (Prickly(),) * 5,
    len,
    int,
    Fraction(1, 2),
    range(2),
    nested(20, ()),
    nested(20, 1),
    (None, None),
    ("x",),
    ("x", 0, 0),
    (True, True),
    (1, 0),
    (1, -2),
    (2, 4),
    (0, 2),
    ["x", 0],
)


def fraction(pair):
    """The pair as a fraction of Python's own."""
    return Fraction(pair[0], pair[1])


def pair(value):
    """A fraction of Python's own, or a whole number, as a pair."""
    value = Fraction(value)
    return (value.numerator, value.denominator)


class Told(unittest.TestCase):
    """Tests that ask which error is raised."""

    def raises(self, kind, attribute, value, function, /, *arguments, **named):
        """FUNCTION raises just KIND, with VALUE at its ATTRIBUTE."""
        with self.assertRaises(kind) as caught:
            function(*arguments, **named)
        self.assertIs(type(caught.exception), kind)
        told = getattr(caught.exception, attribute)
        if type(value) in (int, bool):
            self.assertIs(type(told), type(value))
            self.assertEqual(told, value)
        elif attribute == "given":
            self.assertIs(told, value)
        else:
            self.assertEqual(told, value)

    def all_wrong(self, function, names, right, wrong):
        """Each wrong argument alone, then any two at once: the one that stands ahead is told.

        WRONG holds, for each wrong one, its place, the value, and the error's kind, attribute and value.
        """
        function(*right)
        function(**dict(zip(names, right)))
        for place, value, *told in wrong:
            arguments = list(right)
            arguments[place] = value
            with self.subTest(function=function.__name__, place=place, told=told[0].__name__):
                self.raises(*told, function, *arguments)
                self.raises(*told, function, **dict(zip(names, arguments)))
        for place, value, *told in wrong:
            for behind, other, *_ in wrong:
                if place < behind:
                    arguments = list(right)
                    arguments[place] = value
                    arguments[behind] = other
                    with self.subTest(function=function.__name__, places=(place, behind)):
                        self.raises(*told, function, *arguments)
