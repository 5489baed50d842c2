"""Points 19 and 20, with 4 to 6 and 14: series, worths along rows of them, changes and courses."""

import itertools
import math
import random
import unittest
from fractions import Fraction

from hiddenrates.errors import InvalidAssignment, InvalidField, InvalidNumber, InvalidPolynomial, InvalidRow
from hiddenrates.errors import InvalidSeries, TooMany
from hiddenrates.polynomials import is_polynomial, minus, number, plus, slope, times, unknown_of, worth
from hiddenrates.series import change, course, is_series, series_times, worth_along
from samples import HALF, NIL, ONE, THINGS, THIRD, Prickly, Told, fraction, pair
from terms import NO_POLYNOMIALS, SQUARES, WRONG_MANY, X, Y, as_dict, as_terms, box, power, product_of
from terms import some_fraction, some_polynomial, sum_of, wrong_at

UNIT = power(0, 0)
APART = (X, (((0, 1), (-1, 1)),))
# None of these is a fraction.
NO_FRACTIONS = ((2, 4), (0, 2), (1, 0), (1, -2), (1, True), (True, 1), [1, 2], (1,), 1, None, "1", (), Prickly())
WRONG_DEGREES = (-1, 9, 100, None, True, False, "3", (3,), [3], Prickly())


def series(*parts):
    """The series of these numbers."""
    return tuple(pair(part) for part in parts)


def some_series(source, degree):
    return tuple(pair(some_fraction(source)) for _ in range(degree + 1))


def some_row(source, many, degree):
    return tuple(some_series(source, degree) for _ in range(many))


def some_point(source, many):
    return tuple(pair(some_fraction(source)) for _ in range(many))


def some_field(source, many, degree=2):
    return tuple(some_polynomial(source, many, degree, 4) for _ in range(many))


def multiplied(one, two):
    """The product of two lists of Python's own fractions, up to where they end."""
    return [sum(one[at] * two[index - at] for at in range(index + 1)) for index in range(len(one))]


def put_in(one, degree, row):
    """The worth along a row, by Python's own fractions."""
    total = [Fraction(0)] * (degree + 1)
    for powers, factor in as_dict(one).items():
        product = [factor] + [Fraction(0)] * degree
        for told, risen in zip(row, powers):
            for _ in range(risen):
                product = multiplied(product, [fraction(part) for part in told])
        total = [mine + yours for mine, yours in zip(total, product)]
    return series(*total)


class Examples(Told):
    def test_as_they_stand(self):
        x, y = unknown_of(2, 0), unknown_of(2, 1)
        squares = plus(2, times(2, x, x), times(2, y, number(2, (-1, 2))))
        apart = (x, minus(2, (), y))
        there = course(2, apart, ((1, 1), (1, 1)), 3)
        self.assertEqual(
            [there, worth_along(2, times(2, x, y), 3, there), change(2, apart, times(2, x, y))],
            [
                (((1, 1), (1, 1), (1, 2), (1, 6)), ((1, 1), (-1, 1), (1, 2), (-1, 6))),
                ((1, 1), (0, 1), (0, 1), (0, 1)),
                (),
            ],
        )
        self.assertEqual(
            [change(2, apart, squares), worth_along(2, squares, 1, course(2, apart, ((1, 1), (1, 1)), 1))],
            [(((2, 0), (2, 1)), ((0, 1), (1, 2))), ((1, 2), (5, 2))],
        )
        self.assertEqual(
            series_times(2, ((1, 1), (1, 1), (0, 1)), ((1, 1), (-1, 1), (1, 1))), ((1, 1), (0, 1), (0, 1))
        )


class IsSeries(Told):
    def test_one_to_nine_fractions(self):
        for length in range(12):
            self.assertIs(is_series((HALF,) * length), 1 <= length <= 9)
            self.assertIs(is_series((NIL,) * length), 1 <= length <= 9)
            self.assertIs(is_series([HALF] * length), False)

    def test_what_is_one(self):
        for value in (((0, 1),), ((-7, 3), (1, 1000)), ((10 ** 399, 7),), (NIL, NIL, ONE)):
            self.assertIs(is_series(value), True)
        self.assertIs(is_series(value=(HALF, NIL)), True)

    def test_what_is_none(self):
        for value in NO_FRACTIONS:
            self.assertIs(is_series(value), False)
            for row in ((value,), (value, HALF), (HALF, value), (ONE,) * 8 + (value,)):
                self.assertIs(is_series(row), False)
        self.assertIs(is_series(HALF), False)

    def test_anything(self):
        for thing in THINGS:
            self.assertIs(is_series(thing), False)
            self.assertIs(is_series((thing,)), False)
            self.assertIs(is_series((ONE, thing)), False)


class Products(Told):
    def test_by_hand(self):
        self.assertEqual(series_times(0, (HALF,), (THIRD,)), ((1, 6),))
        self.assertEqual(series_times(1, series(1, 1), series(1, 1)), series(1, 2))
        self.assertEqual(series_times(2, series(1, 1, 0), series(1, 1, 0)), series(1, 2, 1))
        self.assertEqual(series_times(3, series(0, 1, 0, 5), series(0, 0, 1, 7)), series(0, 0, 0, 1))
        # 1 over 1 less T, times 1 less T.
        self.assertEqual(series_times(8, series(*[1] * 9), series(1, -1, *[0] * 7)), series(1, *[0] * 8))
        self.assertEqual(series_times(1, (HALF, (2, 3)), (THIRD, (-3, 4))), ((1, 6), (-11, 72)))

    def test_by_pythons_fractions(self):
        source = random.Random(71)
        for degree in range(9):
            for _ in range(10):
                one, two, third = (some_series(source, degree) for _ in range(3))
                told = series_times(degree, one, two)
                self.assertEqual(told, series(*multiplied(list(map(fraction, one)), list(map(fraction, two)))))
                self.assertIs(is_series(told), True)
                self.assertEqual(series_times(degree, two, one), told)
                self.assertEqual(
                    series_times(degree, told, third), series_times(degree, one, series_times(degree, two, third))
                )

    def test_beginnings_add_up(self):
        for one, two in itertools.product(range(9), repeat=2):
            first, second = (series(*[0] * each, 3, *range(1, 9 - each)) for each in (one, two))
            told = series_times(8, first, second)
            beginning = next((index for index, part in enumerate(told) if part != NIL), None)
            self.assertEqual(beginning, one + two if one + two <= 8 else None)

    def test_wrong_arguments(self):
        values = [((HALF, NIL, value)) for value in NO_FRACTIONS]
        values += [None, (), (HALF,), (HALF, NIL), (HALF,) * 4, (HALF,) * 10, [HALF] * 3, HALF, "123", Prickly()]
        wrong = [(0, value, InvalidNumber, "given", value) for value in WRONG_DEGREES]
        wrong += [(place, value, InvalidSeries, "given", value) for place in (1, 2) for value in values]
        right = (2, (HALF, NIL, ONE), (ONE, HALF, THIRD))
        self.all_wrong(series_times, ("degree", "series", "other"), right, wrong)
        for thing in THINGS:
            self.raises(InvalidSeries, "given", thing, series_times, 2, thing, right[1])
            self.raises(InvalidSeries, "given", thing, series_times, 2, right[1], thing)
        one = (HALF,) * 10
        self.raises(InvalidNumber, "given", 9, series_times, 9, one, one)


class Worths(Told):
    def test_by_hand(self):
        row = (series(1, 2, 0), series(0, 1, -1))
        self.assertEqual(worth_along(2, X, 2, row), row[0])
        self.assertEqual(worth_along(2, Y, 2, row), row[1])
        self.assertEqual(worth_along(2, power(2, 0), 2, row), series(1, 4, 4))
        self.assertEqual(worth_along(2, power(1, 1), 2, row), series(0, 1, 1))
        # (1 + 2 T)^2 less half of T - T^2.
        self.assertEqual(worth_along(2, SQUARES, 2, row), series(1, Fraction(7, 2), Fraction(9, 2)))
        self.assertEqual(worth_along(2, number(2, THIRD), 2, row), (THIRD, NIL, NIL))
        self.assertEqual(worth_along(1, power(40), 1, (series(1, 1),)), series(1, 40))
        self.assertEqual(worth_along(1, power(40), 8, (series(0, *[1] * 8),)), series(*[0] * 9))

    def test_nought_and_no_unknowns(self):
        source = random.Random(72)
        for degree in range(9):
            for many in range(5):
                self.assertEqual(worth_along(many, (), degree, some_row(source, many, degree)), (NIL,) * (degree + 1))
            self.assertEqual(worth_along(0, number(0, HALF), degree, ()), (HALF,) + (NIL,) * degree)

    def test_by_pythons_fractions(self):
        source = random.Random(73)
        for index in range(120):
            many, degree = source.randrange(5), index % 9
            one, row = some_polynomial(source, many), some_row(source, many, degree)
            told = worth_along(many, one, degree, row)
            self.assertEqual(told, put_in(one, degree, row))
            self.assertIs(is_series(told), True)
            # What comes with greater powers of T is left out.
            for less in range(degree):
                cut = tuple(each[:less + 1] for each in row)
                self.assertEqual(worth_along(many, one, less, cut), told[:less + 1])

    def test_degree_nought_is_a_worth(self):
        source = random.Random(74)
        for _ in range(60):
            many = source.randrange(5)
            one, point = some_polynomial(source, many), some_point(source, many)
            self.assertEqual(worth_along(many, one, 0, tuple((share,) for share in point)), (worth(many, one, point),))

    def test_of_sums_and_products(self):
        source = random.Random(75)
        for index in range(60):
            many, degree = source.randrange(5), index % 9
            one, two = some_polynomial(source, many), some_polynomial(source, many)
            row = some_row(source, many, degree)
            first, second = worth_along(many, one, degree, row), worth_along(many, two, degree, row)
            told = worth_along(many, times(many, one, two), degree, row)
            self.assertEqual(told, series_times(degree, first, second))
            total = series(*[fraction(mine) + fraction(yours) for mine, yours in zip(first, second)])
            self.assertEqual(worth_along(many, plus(many, one, two), degree, row), total)

    def test_wrong_arguments(self):
        bad = [(HALF, value) for value in NO_FRACTIONS] + [(HALF,), (HALF,) * 3, (), [HALF, HALF], None, HALF, 1]
        rows = [(value, (HALF, NIL)) for value in bad] + [((HALF, NIL), value) for value in bad]
        rows += [None, (), ((HALF, NIL),), ((HALF, NIL),) * 3, [(HALF, NIL)] * 2, "ab", Prickly()]
        wrong = list(WRONG_MANY + wrong_at(1))
        wrong += [(2, value, InvalidNumber, "given", value) for value in WRONG_DEGREES]
        wrong += [(3, value, InvalidRow, "given", value) for value in rows]
        right = (2, SQUARES, 1, ((HALF, NIL), (ONE, THIRD)))
        self.all_wrong(worth_along, ("many", "one", "degree", "row"), right, wrong)
        for thing in THINGS:
            self.raises(InvalidRow, "given", thing, worth_along, 2, SQUARES, 1, thing)
            self.raises(InvalidNumber, "given", thing, worth_along, 2, SQUARES, thing, right[3])
        for row in (((),), (HALF,), None, []):
            self.raises(InvalidRow, "given", row, worth_along, 0, (), 1, row)


class Changes(Told):
    def test_by_hand(self):
        self.assertEqual(change(2, APART, power(1, 1)), ())
        self.assertEqual(change(2, APART, X), X)
        self.assertEqual(change(2, (Y, X), power(2, 0)), (((1, 1), (2, 1)),))
        self.assertEqual(change(2, (UNIT, UNIT), SQUARES), (((1, 0), (2, 1)), ((0, 0), (-1, 2))))
        self.assertEqual(change(1, ((((1,), HALF),),), power(3)), (((3,), (3, 2)),))
        self.assertEqual(change(2, (SQUARES, ()), Y), ())

    def test_nought_and_no_unknowns(self):
        for many in range(5):
            field = ((),) * many
            self.assertEqual(change(many, field, number(many, HALF)), ())
            self.assertEqual(change(many, field, ()), ())
        self.assertEqual([change(0, (), number(0, THIRD)), change(2, (X, Y), ()), change(2, (X, Y), UNIT)], [()] * 3)
        self.assertEqual(change(2, ((), ()), SQUARES), ())

    def test_by_slopes(self):
        source = random.Random(76)
        for _ in range(150):
            many = source.randrange(5)
            field, one = some_field(source, many), some_polynomial(source, many)
            two = some_polynomial(source, many)
            parts = [product_of(as_dict(field[at]), as_dict(slope(many, one, at))) for at in range(many)]
            told = change(many, field, one)
            self.assertEqual(told, as_terms(sum_of(*parts)))
            self.assertIs(is_polynomial(many, told), True)
            product = plus(many, times(many, told, two), times(many, one, change(many, field, two)))
            self.assertEqual(change(many, field, times(many, one, two)), product)
            for unknown in range(many):
                self.assertEqual(change(many, field, unknown_of(many, unknown)), field[unknown])

    def test_too_many(self):
        self.assertEqual(change(2, (power(20, 1), ()), power(20, 0)), (((39, 1), (20, 1)),))
        self.raises(TooMany, "given", 41, change, 2, (power(20, 2), ()), power(20, 0))
        self.raises(TooMany, "given", 79, change, 2, (X, power(40, 0)), power(0, 40))
        plane, six, seven = as_terms(box(10, 10, 1)), box(1, 1, 6), box(1, 1, 7)
        # The slopes of these by the last unknown are 1 and more, up to its powers 5 and 6.
        sixth, seventh = (as_terms(product_of(kept, {(0, 0, 1): Fraction(1)})) for kept in (six, seven))
        self.assertEqual(len(change(3, ((), (), plane), sixth)), 600)
        self.raises(TooMany, "given", 700, change, 3, ((), (), plane), seventh)
        self.raises(TooMany, "given", 601, change, 3, (power(30, 0, 0), (), plane), plus(3, sixth, power(1, 0, 0)))
        # The degree is told ahead of how many terms there are.
        self.raises(TooMany, "given", 45, change, 3, (power(0, 39, 0), (), plane), plus(3, seventh, power(1, 6, 0)))

    def test_what_falls_away_does_not_count(self):
        great = power(40, 0)
        self.assertEqual(change(2, (great, great), minus(2, X, Y)), ())
        # x1 times x0 less x0 times x1, both times what has a degree of 39.
        self.assertEqual(change(2, (power(39, 1), (((38, 2), (-2, 1)),)), power(2, 1)), ())
        # Each of both products has 700 terms, and all but 7 of them are in both.
        plane, first, seven = as_terms(box(10, 10, 1)), power(1, 0, 0), box(1, 1, 7)
        one = as_terms(product_of(seven, {(1, 0, 0): Fraction(1), (0, 1, 0): Fraction(1)}))
        told = change(3, (plane, minus(3, first, plane), ()), one)
        self.assertEqual(told, as_terms(product_of(seven, as_dict(first))))

    def test_wrong_arguments(self):
        fields = [None, (), (X,), (X, Y, X), [X, Y], X, "xy", Prickly(), ((), power(1))]
        fields += [(value, X) for value in NO_POLYNOMIALS] + [(X, value) for value in NO_POLYNOMIALS]
        wrong = WRONG_MANY + tuple((1, value, InvalidField, "given", value) for value in fields) + wrong_at(2)
        self.all_wrong(change, ("many", "field", "one"), (2, APART, SQUARES), wrong)
        for thing in THINGS:
            self.raises(InvalidField, "given", thing, change, 2, thing, X)
            self.raises(InvalidField, "given", thing, change, 0, thing, ())
            self.raises(InvalidPolynomial, "given", thing, change, 0, (), thing)
            self.raises(InvalidPolynomial, "given", thing, change, 2, APART, thing)

    def test_too_many_is_told_last(self):
        great = power(40, 0)
        self.raises(InvalidPolynomial, "given", None, change, 2, (great, great), None)
        self.raises(TooMany, "given", 41, change, 2, (great, great), power(2, 0))


class Courses(Told):
    def test_by_hand(self):
        inverse = [Fraction(1, math.factorial(index)) for index in range(9)]
        for degree in range(9):
            # The slope of each of these is itself, its square, 1 more than its square.
            self.assertEqual(course(1, (power(1),), (ONE,), degree), (series(*inverse[:degree + 1]),))
            self.assertEqual(course(1, (power(2),), (ONE,), degree), (series(*[1] * (degree + 1)),))
            tangent = (0, 1, 0, Fraction(1, 3), 0, Fraction(2, 15), 0, Fraction(17, 315), 0)
            told = course(1, (power(2) + power(0),), (NIL,), degree)
            self.assertEqual(told, (series(*tangent[:degree + 1]),))
            # Sine and cosine.
            sine = [each * (0, 1, 0, -1)[index % 4] for index, each in enumerate(inverse)]
            cosine = [each * (1, 0, -1, 0)[index % 4] for index, each in enumerate(inverse)]
            told = course(2, (Y, (((1, 0), (-1, 1)),)), (NIL, ONE), degree)
            self.assertEqual(told, (series(*sine[:degree + 1]), series(*cosine[:degree + 1])))

    def test_degree_nought(self):
        source = random.Random(77)
        for many in range(5):
            point = some_point(source, many)
            self.assertEqual(course(many, some_field(source, many), point, 0), tuple((share,) for share in point))

    def test_no_unknowns(self):
        for degree in range(9):
            self.assertEqual(course(0, (), (), degree), ())

    def test_fields_that_stop(self):
        for degree in range(9):
            rest = [0] * 8
            told = course(2, ((), ()), (HALF, THIRD), degree)
            self.assertEqual(told, ((HALF,) + (NIL,) * degree, (THIRD,) + (NIL,) * degree))
            told = course(2, (UNIT, X), ((2, 1), (5, 1)), degree)
            self.assertEqual(told[0], series(2, 1, *rest)[:degree + 1])
            self.assertEqual(told[1], series(5, 2, Fraction(1, 2), *rest)[:degree + 1])
            # Where the field is 0 nothing goes.
            self.assertEqual(course(1, (minus(1, power(2), power(1)),), (ONE,), degree), ((ONE,) + (NIL,) * degree,))

    def test_fields_with_fractions(self):
        told = course(1, ((((1,), HALF), ((0,), (-2, 3))),), ((1, 5),), 2)
        # Half of 1/5 less 2/3 is - 17/30, of which half, and half again, is the next one.
        self.assertEqual(told, (series(Fraction(1, 5), Fraction(-17, 30), Fraction(-17, 120)),))
        source = random.Random(78)
        for _ in range(20):
            factor, start = some_fraction(source), some_fraction(source)
            told = course(1, (as_terms({(1,): factor}),), (pair(start),), 8)
            parts = [start * factor ** index / math.factorial(index) for index in range(9)]
            self.assertEqual(told, (series(*parts),))

    def test_the_slopes_in_t(self):
        source = random.Random(79)
        for index in range(90):
            many, degree = source.randrange(5), index % 9
            field, point = some_field(source, many), some_point(source, many)
            row = course(many, field, point, degree)
            self.assertIs(type(row), tuple)
            self.assertEqual([len(each) for each in row], [degree + 1] * many)
            self.assertTrue(all(is_series(each) for each in row))
            self.assertEqual(tuple(each[0] for each in row), point)
            for each, one in zip(row, field):
                slopes = [at * fraction(part) for at, part in enumerate(each)][1:]
                self.assertEqual(series(*slopes), worth_along(many, one, degree, row)[:degree])
            for less in range(degree):
                self.assertEqual(course(many, field, point, less), tuple(each[:less + 1] for each in row))

    def test_wrong_arguments(self):
        fields = [None, (), (X,), (X, Y, X), [X, Y], X, ((), power(1)), Prickly()]
        fields += [(value, X) for value in NO_POLYNOMIALS] + [(X, value) for value in NO_POLYNOMIALS]
        points = [(value, None) for value in (None, (), (HALF,), (HALF,) * 3, [HALF, HALF], 1, "12", Prickly())]
        points += [((value, HALF), 0) for value in NO_FRACTIONS] + [((HALF, value), 1) for value in NO_FRACTIONS]
        points += [((None, None), 0)]
        wrong = list(WRONG_MANY)
        wrong += [(1, value, InvalidField, "given", value) for value in fields]
        wrong += [(2, value, InvalidAssignment, "index", index) for value, index in points]
        wrong += [(3, value, InvalidNumber, "given", value) for value in WRONG_DEGREES]
        right = (2, APART, (HALF, THIRD), 2)
        self.all_wrong(course, ("many", "field", "assignment", "degree"), right, wrong)
        for thing in THINGS:
            self.raises(InvalidField, "given", thing, course, 2, thing, right[2], 2)
            self.raises(InvalidAssignment, "index", 1, course, 2, APART, (HALF, thing), 2)
            self.raises(InvalidNumber, "given", thing, course, 2, APART, right[2], thing)
        self.raises(InvalidAssignment, "index", None, course, 0, (), (HALF,), 2)

    def test_fractions_need_not_be_told_ones(self):
        start = (1001, 1000)
        self.assertEqual(course(1, (power(1),), (start,), 1), ((start, start),))


class Staying(Told):
    """Point 20."""

    def test_changes_done_again_and_again(self):
        source = random.Random(80)
        for index in range(60):
            many, degree = source.randrange(1, 4), index % 5
            field, point = some_field(source, many), some_point(source, many)
            one = some_polynomial(source, many, 2)
            told = worth_along(many, one, degree, course(many, field, point, degree))
            for at in range(degree + 1):
                expected = fraction(worth(many, one, point)) / math.factorial(at)
                self.assertEqual(told[at], pair(expected))
                one = change(many, field, one)

    def test_what_no_change_changes_stays(self):
        source = random.Random(81)
        stays = goes = 0
        for index in range(40):
            # By this field x0 x1 stays, whatever its factor.
            factor = some_polynomial(source, 2, 2)
            field = tuple(times(2, factor, each) for each in APART)
            one = source.choice((power(1, 1), power(2, 2), some_polynomial(source, 2)))
            rows = [course(2, field, some_point(source, 2), index % 8 + 1) for _ in range(12)]
            told = [worth_along(2, one, index % 8 + 1, row)[1:] for row in rows]
            if change(2, field, one) == ():
                stays += 1
                self.assertTrue(all(part == NIL for parts in told for part in parts))
            else:
                goes += 1
                self.assertTrue(any(part != NIL for parts in told for part in parts))
        self.assertGreater(stays, 5)
        self.assertGreater(goes, 5)

    def test_slopes_made_of_those_that_stay(self):
        # x0 - x1 times the slopes of x1 is those of x0 x1 less x1 times those of x0 + x1.
        total, product, beside = plus(2, X, Y), power(1, 1), minus(2, X, Y)
        for unknown in range(2):
            less = times(2, Y, slope(2, total, unknown))
            made = minus(2, slope(2, product, unknown), less)
            self.assertEqual(times(2, beside, slope(2, Y, unknown)), made)
        for degree in range(1, 9):
            for late in range(degree // 2 + 1, degree + 1):
                swing = [0] * late + [1, 4, 1, 7, 5, 3, 2, 1]
                first = series(3, *swing[1:degree + 1])
                second = series(3, *[-part for part in swing[1:degree + 1]])
                row = (first, second)
                for one in (total, product):
                    self.assertEqual(worth_along(2, one, degree, row)[1:], (NIL,) * degree)
                index = [part != NIL for part in worth_along(2, beside, degree, row)].index(True)
                self.assertEqual(index, late)
                told = worth_along(2, Y, degree, row)
                self.assertEqual(told[1:degree - index + 1], (NIL,) * (degree - index))
                self.assertNotEqual(told[late], NIL)


if __name__ == "__main__":
    unittest.main()
