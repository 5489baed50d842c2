"""Points 13 and 14: fractions, polynomials, their sums, products, slopes, worths and renamings."""

import itertools
import random
import unittest
from fractions import Fraction

from hiddenrates.errors import InvalidAssignment, InvalidFraction, InvalidNumber, InvalidOrder, InvalidPolynomial
from hiddenrates.errors import TooMany
from hiddenrates.polynomials import is_fraction, is_polynomial, minus, number, plus, renamed, slope, times
from hiddenrates.polynomials import unknown_of, worth
from samples import HALF, NIL, ONE, THINGS, THIRD, Prickly, Told, fraction, nested, pair
from terms import SQUARES, WRONG_MANY, X, Y, as_dict, as_terms, product_of, some_fraction, some_polynomial
from terms import with_terms, wrong_at


def some_pairs(seed, count):
    source = random.Random(seed)
    for _ in range(count):
        many = source.randrange(5)
        yield source, many, some_polynomial(source, many), some_polynomial(source, many)


class Examples(unittest.TestCase):
    def test_as_they_stand(self):
        x, y = unknown_of(2, 0), unknown_of(2, 1)
        self.assertEqual(
            [x, plus(2, x, y), times(2, plus(2, x, y), minus(2, x, y)), minus(2, x, x), number(2, (3, 2))],
            [
                (((1, 0), (1, 1)),),
                (((1, 0), (1, 1)), ((0, 1), (1, 1))),
                (((2, 0), (1, 1)), ((0, 2), (-1, 1))),
                (),
                (((0, 0), (3, 2)),),
            ],
        )
        squares = plus(2, times(2, x, x), times(2, y, number(2, (-1, 2))))
        self.assertEqual(
            [
                squares,
                slope(2, squares, 0),
                slope(2, squares, 1),
                worth(2, squares, ((1, 2), (2, 1))),
                renamed(2, squares, (1, 0)),
            ],
            [
                (((2, 0), (1, 1)), ((0, 1), (-1, 2))),
                (((1, 0), (2, 1)),),
                (((0, 0), (-1, 2)),),
                (-3, 4),
                (((0, 2), (1, 1)), ((1, 0), (-1, 2))),
            ],
        )
        self.assertEqual(
            [
                is_polynomial(2, squares),
                is_polynomial(2, squares[::-1]),
                is_polynomial(2, (((1, 0), (2, 4)),)),
                is_polynomial(1, squares),
            ],
            [True, False, False, False],
        )


class IsFraction(unittest.TestCase):
    def test_what_is_one(self):
        great = 10 ** 399
        for value in ((0, 1), (1, 1), (-1, 1), (1, 2), (-3, 2), (1000, 999), (great, great + 1), (-great, 1)):
            self.assertIs(is_fraction(value), True)
        self.assertIs(is_fraction(value=HALF), True)

    def test_what_is_none(self):
        great = 10 ** 399
        for value in ((0, 2), (0, 0), (1, 0), (2, 4), (-2, 4), (3, 3), (1, -1), (-1, -2), (0, -1), (great, 10)):
            self.assertIs(is_fraction(value), False)
        for value in ((), (1,), (1, 2, 3), [1, 2], 1, 0, "1/2", Fraction(1, 2)):
            self.assertIs(is_fraction(value), False)
        for value in ((True, 1), (1, True), (False, 1), (1, None), ("1", 2), ((1,), 2)):
            self.assertIs(is_fraction(value), False)
        for value in THINGS:
            self.assertIs(is_fraction(value), False)
            self.assertIs(is_fraction((value, 0)), False)
            self.assertIs(is_fraction((value, value)), False)


class IsPolynomial(Told):
    def yes(self, many, *values):
        for value in values:
            self.assertIs(is_polynomial(many, value), True, value)

    def no(self, many, *values):
        for value in values:
            self.assertIs(is_polynomial(many, value), False)

    def test_what_is_one(self):
        for many in range(5):
            self.yes(many, (), (((0,) * many, ONE),), (((0,) * many, (-7, 3)),))
        self.yes(1, (((2,), ONE), ((1,), HALF), ((0,), (-1, 1))), (((40,), ONE),))
        self.yes(2, SQUARES, X, Y, X + Y, (((0, 1), (10 ** 399, 3)),))

    def test_order(self):
        self.no(2, SQUARES[::-1], Y + X, (((0, 0), ONE), ((1, 0), ONE)), (((0, 2), ONE), ((2, 0), ONE)))
        self.yes(2, (((2, 0), ONE), ((1, 1), ONE), ((0, 2), ONE), ((1, 0), ONE), ((0, 1), ONE), ((0, 0), ONE)))
        # The degree goes ahead of the powers.
        self.yes(2, (((0, 2), ONE), ((1, 0), ONE)))
        self.no(2, (((1, 0), ONE), ((0, 2), ONE)))
        self.yes(3, (((0, 1, 1), ONE), ((0, 0, 2), ONE)))
        self.no(3, (((0, 0, 2), ONE), ((0, 1, 1), ONE)))
        self.no(2, (((1, 0), ONE), ((0, 0), ONE), ((0, 1), ONE)))

    def test_terms_twice(self):
        self.no(2, X + X, (((1, 0), ONE), ((1, 0), HALF)), X + Y + Y)
        self.no(0, (((), ONE), ((), ONE)))

    def test_fractions(self):
        for told in (NIL, (0, 2), (2, 4), (1, 0), (1, -2), (1,), 1, None, [1, 2], (True, 1), (1, True), ONE + ONE, ()):
            self.no(1, (((1,), told),), (((2,), ONE), ((1,), told)))

    def test_degree(self):
        self.yes(1, (((40,), ONE),))
        self.no(1, (((41,), ONE),))
        self.yes(2, (((20, 20), ONE),), (((0, 40), ONE),), (((39, 1), ONE), ((0, 0), ONE)))
        self.no(2, (((20, 21), ONE),), (((0, 41), ONE),), (((40, 1), ONE),), (((40, 40), ONE),))
        self.yes(4, (((10, 10, 10, 10), ONE),))
        self.no(4, (((10, 10, 10, 11), ONE),), (((10 ** 399, 0, 0, 0), ONE),))

    def test_how_many_terms(self):
        for many, degree in ((2, 40), (3, 20), (4, 12)):
            self.yes(many, with_terms(many, 599, degree), with_terms(many, 600, degree))
            self.no(many, with_terms(many, 601, degree))

    def test_powers(self):
        for powers in ((), (1,), (1, 0, 0), [1, 0], None, 1, "10"):
            self.no(2, ((powers, ONE),))
        for powers in ((-1, 2), (1, -1), (True, 0), (1, False), (None, 0), ((1,), 0)):
            self.no(2, ((powers, ONE),))
        self.no(0, (((0,), ONE),), (((1,), ONE),))
        self.no(1, (((), ONE),))

    def test_terms(self):
        self.no(1, (((1,),),), (((1,), ONE, ONE),), ([(1,), ONE],), ((1,), ONE), ((ONE, (1,)),), ((),), (None,), (1,))
        self.no(1, [], [((1,), ONE)], None, 0, 1, "", "x0", {}, ((1,), (1, 1)))

    def test_anything(self):
        for thing in THINGS:
            # For 2 unknowns one of these is a tuple of powers.
            for many in (0, 1, 3, 4):
                self.no(many, thing, (thing,), ((thing, ONE),), (((1,) * many, thing),), (thing, thing))
            self.no(1, (((thing,), ONE),), (((1,), (thing, 2, 1)),), (((1,), ONE), thing))
        for depth in range(1, 20):
            self.no(1, nested(depth, 0), nested(depth, ()))

    def test_wrong_many(self):
        for many in (-1, 5, 100, None, True, False, "1", (1,), [], Prickly()):
            self.raises(InvalidNumber, "given", many, is_polynomial, many, ())
            self.raises(InvalidNumber, "given", many, is_polynomial, many, None)
            self.raises(InvalidNumber, "given", many, is_polynomial, value=Prickly(), many=many)


class Simple(Told):
    def test_number(self):
        self.assertEqual(number(0, (-7, 3)), (((), (-7, 3)),))
        self.assertEqual(number(4, ONE), (((0, 0, 0, 0), ONE),))
        self.assertEqual(number(1, (10 ** 399, 7)), (((0,), (10 ** 399, 7)),))
        for many in range(5):
            self.assertEqual(number(many, NIL), ())

    def test_unknown_of(self):
        for many in range(5):
            for unknown in range(many):
                powers = tuple(int(index == unknown) for index in range(many))
                self.assertEqual(unknown_of(many, unknown), ((powers, ONE),))
                self.assertIs(is_polynomial(many, unknown_of(many, unknown)), True)

    def test_wrong_arguments(self):
        values = ((2, 4), (1, 0), 1, None, [1, 2], (1, True), "1")
        wrong = [(1, value, InvalidFraction, "given", value) for value in values]
        self.all_wrong(number, ("many", "fraction"), (2, HALF), list(WRONG_MANY) + wrong)
        wrong = [(1, value, InvalidNumber, "given", value) for value in (-1, 2, 3, None, True, False, "0", (0,), [0])]
        self.all_wrong(unknown_of, ("many", "unknown"), (2, 1), list(WRONG_MANY) + wrong)
        for unknown in (-1, 0, 1):
            self.raises(InvalidNumber, "given", unknown, unknown_of, 0, unknown)
        self.raises(InvalidNumber, "given", 4, unknown_of, 4, 4)
        for thing in THINGS:
            self.raises(InvalidFraction, "given", thing, number, 1, thing)
            self.raises(InvalidNumber, "given", thing, unknown_of, 4, thing)
            self.raises(InvalidNumber, "given", thing, number, thing, ONE)
            self.raises(InvalidNumber, "given", thing, unknown_of, thing, 0)


class Sums(Told):
    def test_by_hand(self):
        self.assertEqual(plus(2, X, Y), X + Y)
        self.assertEqual(plus(2, Y, X), X + Y)
        self.assertEqual(minus(2, Y, X), (((1, 0), (-1, 1)), ((0, 1), ONE)))
        self.assertEqual(plus(2, SQUARES, SQUARES), (((2, 0), (2, 1)), ((0, 1), (-1, 1))))
        self.assertEqual(minus(2, SQUARES, SQUARES), ())
        self.assertEqual(plus(1, (((1,), HALF),), (((1,), (-1, 2)), ((0,), THIRD))), (((0,), THIRD),))
        self.assertEqual(plus(1, (((1,), HALF),), (((1,), THIRD),)), (((1,), (5, 6)),))
        self.assertEqual(minus(1, (((1,), HALF),), (((1,), (-3, 2)),)), (((1,), (2, 1)),))

    def test_nought(self):
        for many in range(5):
            self.assertEqual(plus(many, (), ()), ())
            self.assertEqual(minus(many, (), ()), ())
        self.assertEqual([plus(2, SQUARES, ()), plus(2, (), SQUARES), minus(2, SQUARES, ())], [SQUARES] * 3)
        self.assertEqual(minus(2, (), SQUARES), (((2, 0), (-1, 1)), ((0, 1), HALF)))

    def test_no_unknowns(self):
        self.assertEqual(plus(0, (((), HALF),), (((), THIRD),)), (((), (5, 6)),))
        self.assertEqual(minus(0, (((), HALF),), (((), HALF),)), ())

    def test_by_pythons_fractions(self):
        for _, many, one, two in some_pairs(21, 200):
            mine, yours = as_dict(one), as_dict(two)
            keys = list(mine) + list(yours)
            total = as_terms({powers: mine.get(powers, 0) + yours.get(powers, 0) for powers in keys})
            rest = as_terms({powers: mine.get(powers, 0) - yours.get(powers, 0) for powers in keys})
            self.assertEqual(plus(many, one, two), total)
            self.assertEqual(plus(many, two, one), total)
            self.assertEqual(minus(many, one, two), rest)
            self.assertEqual(plus(many, rest, two), one)
            self.assertIs(is_polynomial(many, total), True)

    def test_too_many_terms(self):
        full = with_terms(2, 600)
        self.assertEqual(len(plus(2, full, full)), 600)
        self.assertEqual(minus(2, full, full), ())
        one, two = (((40, 0), ONE),), (((40, 0), ONE), ((39, 1), ONE))
        self.raises(TooMany, "given", 601, plus, 2, full, one)
        self.raises(TooMany, "given", 601, minus, 2, one, full)
        self.raises(TooMany, "given", 602, plus, 2, two, full)
        self.raises(TooMany, "given", 602, minus, 2, full, two)
        # What falls away does not count.
        self.assertEqual(len(minus(2, plus(2, full[:-1], one), full[:1])), 599)
        less = tuple((powers, (-1, 1)) for powers, _ in full[-3:])
        self.assertEqual(len(plus(2, full, one + less)), 598)

    def test_wrong_arguments(self):
        for function in (plus, minus):
            wrong = WRONG_MANY + wrong_at(1) + wrong_at(2)
            self.all_wrong(function, ("many", "one", "two"), (2, SQUARES, X), wrong)
            for thing in THINGS:
                self.raises(InvalidPolynomial, "given", thing, function, 2, thing, X)
                self.raises(InvalidPolynomial, "given", thing, function, 2, X, thing)
                self.raises(InvalidNumber, "given", thing, function, thing, X, X)


class Products(Told):
    def test_by_hand(self):
        self.assertEqual(times(2, X + Y, X + (((0, 1), (-1, 1)),)), (((2, 0), ONE), ((0, 2), (-1, 1))))
        self.assertEqual(times(2, (((1, 0), HALF),), (((0, 1), (2, 3)),)), (((1, 1), THIRD),))
        self.assertEqual(times(0, (((), HALF),), (((), (2, 1)),)), (((), ONE),))
        self.assertEqual(times(1, (((1,), ONE), ((0,), ONE)), (((1,), ONE), ((0,), ONE)))[1], ((1,), (2, 1)))

    def test_nought(self):
        for many in range(5):
            self.assertEqual(times(many, (), ()), ())
        self.assertEqual([times(2, SQUARES, ()), times(2, (), SQUARES)], [(), ()])
        self.assertEqual(times(2, SQUARES, (((0, 0), ONE),)), SQUARES)

    def test_by_pythons_fractions(self):
        for source, many, one, two in some_pairs(22, 200):
            told = times(many, one, two)
            self.assertEqual(told, as_terms(product_of(as_dict(one), as_dict(two))))
            self.assertEqual(times(many, two, one), told)
            self.assertEqual(told == (), one == () or two == ())
            self.assertIs(is_polynomial(many, told), True)
            third = some_polynomial(source, many)
            self.assertEqual(times(many, told, third), times(many, one, times(many, two, third)))
            parts = plus(many, told, times(many, one, third))
            self.assertEqual(times(many, one, plus(many, two, third)), parts)
            if told != ():
                first = (tuple(map(sum, zip(one[0][0], two[0][0]))), pair(fraction(one[0][1]) * fraction(two[0][1])))
                self.assertEqual(told[0], first)

    def test_too_great_a_degree(self):
        def power(degree):
            return (((degree, 0), ONE), ((0, 0), ONE))

        self.assertEqual(times(2, power(20), power(20))[0], ((40, 0), ONE))
        self.assertEqual(times(2, power(40), (((0, 0), HALF),))[0], ((40, 0), HALF))
        self.raises(TooMany, "given", 41, times, 2, power(20), power(21))
        self.raises(TooMany, "given", 41, times, 2, power(40), Y)
        self.raises(TooMany, "given", 80, times, 2, power(40), power(40))
        self.raises(TooMany, "given", 41, times, 1, (((1,), ONE),), (((40,), ONE),))
        self.assertEqual(times(2, power(40), ()), ())

    def test_too_many_terms(self):
        # Taken times x0 + 1, each of the 40 rows of powers of x0 grows by one term.
        def rows(lengths):
            powers = [(k, row % 8, row // 8) for row, length in enumerate(lengths) for k in range(length)]
            return as_terms({each: Fraction(1) for each in powers})

        step = (((1, 0, 0), ONE), ((0, 0, 0), ONE))
        self.assertEqual(len(times(3, rows([14] * 40), step)), 600)
        self.raises(TooMany, "given", 601, times, 3, rows([14] * 39 + [15]), step)
        self.raises(TooMany, "given", 601, times, 3, step, rows([15] + [14] * 39))
        self.raises(TooMany, "given", 640, times, 3, rows([15] * 40), step)
        # What falls away does not count: x0 - 1 times a row of equal terms leaves the two ends.
        less = (((1, 0, 0), ONE), ((0, 0, 0), (-1, 1)))
        self.assertEqual(len(times(3, rows([15] * 40), less)), 80)

    def test_degree_is_told_ahead_of_how_many(self):
        full = with_terms(2, 600)
        self.raises(TooMany, "given", 68, times, 2, full, full)

    def test_wrong_arguments(self):
        self.all_wrong(times, ("many", "one", "two"), (2, SQUARES, X), WRONG_MANY + wrong_at(1) + wrong_at(2))
        for thing in THINGS:
            self.raises(InvalidPolynomial, "given", thing, times, 2, thing, X)
            self.raises(InvalidPolynomial, "given", thing, times, 2, X, thing)
            self.raises(InvalidNumber, "given", thing, times, thing, X, X)
        # What is told last is told behind all wrong arguments.
        self.raises(InvalidPolynomial, "given", None, times, 1, (((40,), ONE),), None)


class Slopes(Told):
    def test_by_hand(self):
        self.assertEqual(slope(2, SQUARES, 0), (((1, 0), (2, 1)),))
        self.assertEqual(slope(2, SQUARES, 1), (((0, 0), (-1, 2)),))
        self.assertEqual(slope(1, (((3,), HALF), ((1,), THIRD), ((0,), ONE)), 0), (((2,), (3, 2)), ((0,), THIRD)))
        self.assertEqual(slope(2, (((2, 3), (1, 6)),), 0), (((1, 3), THIRD),))
        self.assertEqual(slope(2, (((2, 3), (1, 6)),), 1), (((2, 2), HALF),))
        self.assertEqual(slope(1, (((40,), ONE),), 0), (((39,), (40, 1)),))

    def test_nought(self):
        for many in range(1, 5):
            for unknown in range(many):
                self.assertEqual(slope(many, (), unknown), ())
                self.assertEqual(slope(many, number(many, THIRD), unknown), ())
        self.assertEqual(slope(2, X, 1), ())

    def test_of_sums_and_products(self):
        for source, many, one, two in some_pairs(23, 200):
            for unknown in range(many):
                first, second = slope(many, one, unknown), slope(many, two, unknown)
                self.assertIs(is_polynomial(many, first), True)
                self.assertEqual(slope(many, plus(many, one, two), unknown), plus(many, first, second))
                told = plus(many, times(many, first, two), times(many, one, second))
                self.assertEqual(slope(many, times(many, one, two), unknown), told)
                for other in range(many):
                    self.assertEqual(slope(many, first, other), slope(many, slope(many, one, other), unknown))

    def test_by_pythons_fractions(self):
        for _, many, one, _ in some_pairs(24, 200):
            for unknown in range(many):
                kept = {}
                for powers, factor in as_dict(one).items():
                    lower = list(powers)
                    lower[unknown] -= 1
                    if lower[unknown] >= 0:
                        kept[tuple(lower)] = factor * powers[unknown]
                self.assertEqual(slope(many, one, unknown), as_terms(kept))

    def test_wrong_arguments(self):
        wrong = [(2, value, InvalidNumber, "given", value) for value in (-1, 2, 100, None, True, False, "0", (0,), [0])]
        self.all_wrong(slope, ("many", "one", "unknown"), (2, SQUARES, 1), list(WRONG_MANY + wrong_at(1)) + wrong)
        for thing in THINGS:
            self.raises(InvalidNumber, "given", thing, slope, 2, SQUARES, thing)
        self.raises(InvalidNumber, "given", 0, slope, 0, (), 0)
        self.raises(InvalidPolynomial, "given", X, slope, 0, X, 0)


class Worths(Told):
    def test_by_hand(self):
        self.assertEqual(worth(2, SQUARES, (HALF, (2, 1))), (-3, 4))
        self.assertEqual(worth(2, SQUARES, (NIL, NIL)), NIL)
        self.assertEqual(worth(2, SQUARES, ((-2, 1), (8, 1))), NIL)
        self.assertEqual(worth(1, (((3,), ONE), ((0,), HALF)), ((-2, 3),)), (11, 54))
        self.assertEqual(worth(1, (((40,), ONE),), ((2, 1),)), (2 ** 40, 1))
        self.assertEqual(worth(1, (((40,), ONE),), ((-1, 3),)), (1, 3 ** 40))
        self.assertEqual(worth(1, (((1,), ONE),), ((10 ** 399, 7),)), (10 ** 399, 7))

    def test_no_unknowns_and_nought(self):
        self.assertEqual([worth(0, (), ()), worth(0, (((), (-7, 3)),), ())], [NIL, (-7, 3)])
        self.assertEqual([worth(2, (), (HALF, THIRD)), worth(2, number(2, HALF), (THIRD, NIL))], [NIL, HALF])

    def test_sums_and_products(self):
        for source, many, one, two in some_pairs(25, 200):
            point = tuple(pair(some_fraction(source)) for _ in range(many))
            mine, yours = fraction(worth(many, one, point)), fraction(worth(many, two, point))
            self.assertEqual(worth(many, plus(many, one, two), point), pair(mine + yours))
            self.assertEqual(worth(many, minus(many, one, two), point), pair(mine - yours))
            self.assertEqual(worth(many, times(many, one, two), point), pair(mine * yours))
            total = Fraction(0)
            for powers, factor in as_dict(one).items():
                for share, power in zip(point, powers):
                    factor *= fraction(share) ** power
                total += factor
            self.assertEqual(worth(many, one, point), pair(total))

    def test_few_worths_tell_a_polynomial(self):
        for source, many, one, two in some_pairs(26, 60):
            greatest = max([power for powers, _ in one + two for power in powers], default=0)
            points = itertools.product([(k, 1) for k in range(greatest + 1)], repeat=many)
            same = all(worth(many, one, point) == worth(many, two, point) for point in points)
            self.assertEqual(same, one == two)

    def test_wrong_arguments(self):
        wrong = [
            (2, value, InvalidAssignment, "index", told)
            for value, told in (
                (None, None),
                ((), None),
                ((HALF,), None),
                ((HALF,) * 3, None),
                ([HALF, HALF], None),
                (HALF, 0),
                ((HALF, (2, 4)), 1),
                (((1, 0), (2, 4)), 0),
                ((HALF, [1, 2]), 1),
                ((HALF, (1, True)), 1),
                ((1, HALF), 0),
                ((HALF, None), 1),
            )
        ]
        names = ("many", "one", "assignment")
        self.all_wrong(worth, names, (2, SQUARES, (HALF, THIRD)), list(WRONG_MANY + wrong_at(1)) + wrong)
        for thing in THINGS:
            self.raises(InvalidAssignment, "index", 1, worth, 2, SQUARES, (HALF, thing))
            if type(thing) is not tuple:
                self.raises(InvalidAssignment, "index", None, worth, 2, SQUARES, thing)
                self.raises(InvalidAssignment, "index", None, worth, 0, (), thing)
        self.raises(InvalidAssignment, "index", None, worth, 0, (), (HALF,))

    def test_fractions_need_not_be_told_ones(self):
        self.assertEqual(worth(1, (((1,), ONE),), ((1000, 1001),)), (1000, 1001))


class Renamings(Told):
    def test_by_hand(self):
        self.assertEqual(renamed(2, SQUARES, (1, 0)), (((0, 2), ONE), ((1, 0), (-1, 2))))
        self.assertEqual(renamed(2, SQUARES, (0, 1)), SQUARES)
        # The unknown 0 becomes 1, 1 becomes 2, 2 becomes 0.
        self.assertEqual(renamed(3, (((3, 2, 1), HALF),), (1, 2, 0)), (((1, 3, 2), HALF),))
        self.assertEqual([renamed(0, (), ()), renamed(0, (((), HALF),), ())], [(), (((), HALF),)])
        self.assertEqual(renamed(1, (((1,), ONE),), (0,)), (((1,), ONE),))

    def test_terms_come_in_order_again(self):
        self.assertEqual(renamed(2, (((1, 0), ONE), ((0, 1), HALF)), (1, 0)), (((1, 0), HALF), ((0, 1), ONE)))

    def test_unknowns_and_worths(self):
        for source, many, one, two in some_pairs(27, 120):
            order = list(range(many))
            source.shuffle(order)
            order = tuple(order)
            told = renamed(many, one, order)
            self.assertIs(is_polynomial(many, told), True)
            for unknown in range(many):
                self.assertEqual(renamed(many, unknown_of(many, unknown), order), unknown_of(many, order[unknown]))
            product = renamed(many, times(many, one, two), order)
            self.assertEqual(product, times(many, told, renamed(many, two, order)))
            point = tuple(pair(some_fraction(source)) for _ in range(many))
            self.assertEqual(worth(many, told, point), worth(many, one, tuple(point[index] for index in order)))
            back = tuple(order.index(index) for index in range(many))
            self.assertEqual(renamed(many, told, back), one)

    def test_wrong_arguments(self):
        orders = (None, (), (0,), (0, 0), (1, 1), (0, 2), (-1, 0), (0, 1, 2), (1, 0, 0), [0, 1], (False, True))
        orders += ((0, True), (0, None), ("0", "1"), "01", ((0, 1),), (Prickly(), Prickly()), 0)
        wrong = [(2, value, InvalidOrder, "given", value) for value in orders]
        self.all_wrong(renamed, ("many", "one", "order"), (2, SQUARES, (1, 0)), list(WRONG_MANY + wrong_at(1)) + wrong)
        for thing in THINGS:
            self.raises(InvalidOrder, "given", thing, renamed, 3, (), thing)
        self.raises(InvalidOrder, "given", (0,), renamed, 0, (), (0,))


if __name__ == "__main__":
    unittest.main()
