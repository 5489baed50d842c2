"""Points 17 and 18, with 4 to 6 and 14: tables, their products, determinants, cofactors and own rules."""

import itertools
import random
import unittest
from fractions import Fraction

from hiddenrates.errors import InvalidTable, TooMany
from hiddenrates.polynomials import is_polynomial, minus, number, plus, times, unknown_of
from hiddenrates.tables import cofactors, determinant, is_table, own_rule, table_times, turned
from samples import HALF, ONE, THINGS, Prickly, Told
from terms import NO_POLYNOMIALS, SQUARES, WRONG_MANY, X, Y, as_dict, as_terms, box, by_orders, is_odd, power
from terms import product_of, some_polynomial, sum_of, with_terms

UNIT = power(0, 0)
ROOT = ((X, UNIT), (Y, X))
LESS = (((0, 0), (-1, 1)),)
# Products of these have 600 and 700 terms.
PLANE, SIX, SEVEN = as_terms(box(10, 10, 1)), as_terms(box(1, 1, 6)), as_terms(box(1, 1, 7))


def some_table(source, many, rows, columns, degree=2):
    return tuple(tuple(some_polynomial(source, many, degree, 4) for _ in range(columns)) for _ in range(rows))


def diagonal(*polynomials):
    """The table with these on the diagonal."""
    size = range(len(polynomials))
    return tuple(tuple(one if row == column else () for column in size) for row, one in enumerate(polynomials))


def unit_table(many, size):
    return diagonal(*[number(many, ONE)] * size)


def scaled(many, factor, table):
    """The table, each polynomial taken times FACTOR."""
    return tuple(tuple(times(many, factor, one) for one in row) for row in table)


def added(many, table, other):
    return tuple(tuple(plus(many, one, two) for one, two in zip(*rows)) for rows in zip(table, other))


def some_squares(seed, count, sizes=5):
    source = random.Random(seed)
    for index in range(count):
        size = index % sizes + 1
        many = source.randrange(5)
        yield source, many, size, some_table(source, many, size, size, 2 if size < 4 else 1)


class Examples(Told):
    def test_as_they_stand(self):
        x, y = unknown_of(2, 0), unknown_of(2, 1)
        unit = number(2, (1, 1))
        root = ((x, unit), (y, x))
        self.assertEqual(
            [
                determinant(2, root) == minus(2, times(2, x, x), y),
                turned(2, root) == ((x, y), (unit, x)),
                own_rule(2, root),
            ],
            [True, True, ((((2, 0), (1, 1)), ((0, 1), (-1, 1))), (((1, 0), (-2, 1)),))],
        )
        self.assertEqual(
            cofactors(2, root),
            (((((1, 0), (1, 1)),), (((0, 0), (-1, 1)),)), ((((0, 1), (-1, 1)),), (((1, 0), (1, 1)),))),
        )
        product = table_times(2, root, cofactors(2, root))
        self.assertIs(product == ((determinant(2, root), ()), ((), determinant(2, root))), True)


class IsTable(Told):
    def yes(self, many, *values):
        for value in values:
            self.assertIs(is_table(many, value), True)

    def no(self, many, *values):
        for value in values:
            self.assertIs(is_table(many, value), False)

    def test_one_to_five_rows_and_columns(self):
        for rows in range(7):
            for columns in range(7):
                told = is_table(2, ((SQUARES,) * columns,) * rows)
                self.assertIs(told, 1 <= rows <= 5 and 1 <= columns <= 5)

    def test_what_is_one(self):
        for many in range(5):
            self.yes(many, (((),),), (((), number(many, HALF)),), ((number(many, ONE),), ((),)))
        self.yes(2, ROOT, ROOT[:1], ((with_terms(2, 600),),), ((power(40, 0), ()),))

    def test_rows_of_unlike_lengths(self):
        self.no(2, ((X, Y), (X,)), ((X,), (X, Y)), ((X, Y), ()), ((), (X, Y)), ((X,), (Y,), (X, Y)), ((), ()))
        self.no(2, ((X,) * 5, (X,) * 4), ((X, X), (X, X), (X, X, X)), ((X,), (X,) * 6))

    def test_lists(self):
        self.no(2, [], [(X,)], ([X],), ((list(X),),), [[X]], [[list(X)]], ((X, Y), [X, Y]), ((X, Y), (X, [])))

    def test_what_is_no_polynomial(self):
        for value in NO_POLYNOMIALS:
            self.no(2, ((value,),), ((X, value), (X, Y)), ((X, Y), (X, value)), (value,), value)
        self.no(1, ROOT, ((X,),))
        self.no(2, X, (X,), ((X, Y), (X, power(1))), ())

    def test_anything(self):
        for thing in THINGS:
            self.no(2, thing, (thing,), (thing,) * 2, ((X,), thing), (thing, (X,)))
            self.no(2, ((thing,),), ((X, thing),))

    def test_wrong_many(self):
        for value in (ROOT, None, (), ((),), Prickly()):
            self.all_wrong(is_table, ("many", "value"), (2, value), WRONG_MANY)
        self.assertIs(is_table(value=ROOT, many=2), True)


class Products(Told):
    def test_by_hand(self):
        self.assertEqual(table_times(2, ((X, Y),), ((X,), (Y,))), ((power(2, 0) + power(0, 2),),))
        self.assertEqual(
            table_times(2, ((X,), (Y,)), ((X, Y),)), ((power(2, 0), power(1, 1)), (power(1, 1), power(0, 2)))
        )
        self.assertEqual(table_times(1, ((number(1, HALF), ()),), ((power(1),), (power(2),))), (((((1,), HALF),),),))
        self.assertEqual(table_times(0, ((number(0, (2, 3)),),), ((number(0, (3, 4)),),)), ((number(0, HALF),),))

    def test_not_square(self):
        source = random.Random(51)
        for rows, inner, columns in itertools.product(range(1, 6), range(1, 6), (1, 2, 5)):
            many = source.randrange(5)
            one, two = some_table(source, many, rows, inner), some_table(source, many, inner, columns)
            told = table_times(many, one, two)
            self.assertIs(is_table(many, told), True)
            self.assertEqual([len(row) for row in told], [columns] * rows)
            for row, column in itertools.product(range(rows), range(columns)):
                parts = [product_of(as_dict(one[row][at]), as_dict(two[at][column])) for at in range(inner)]
                self.assertEqual(told[row][column], as_terms(sum_of(*parts)))
            self.assertEqual(turned(many, told), table_times(many, turned(many, two), turned(many, one)))

    def test_unit_tables(self):
        for _, many, size, table in some_squares(52, 15):
            self.assertEqual(table_times(many, table, unit_table(many, size)), table)
            self.assertEqual(table_times(many, unit_table(many, size), table), table)

    def test_the_degree(self):
        great = power(21, 0)
        self.assertEqual(table_times(2, ((great,),), ((power(19, 0),),)), ((power(40, 0),),))
        self.raises(TooMany, "given", 41, table_times, 2, ((great,),), ((power(0, 20),),))
        self.raises(TooMany, "given", 42, table_times, 2, ((X, great), (great, X)), ((X, Y), (great, Y)))
        self.raises(TooMany, "given", 80, table_times, 2, ((power(40, 0),),), ((power(0, 40),),))

    def test_how_many_terms(self):
        one = number(3, ONE)
        self.assertEqual(len(table_times(3, ((PLANE,),), ((SIX,),))[0][0]), 600)
        self.raises(TooMany, "given", 700, table_times, 3, ((PLANE,),), ((SEVEN,),))
        self.raises(TooMany, "given", 601, table_times, 3, ((PLANE, one),), ((SIX,), (power(30, 0, 0),)))
        # The degree is told ahead of how many terms there are.
        high = power(25, 0, 0)
        self.raises(TooMany, "given", 50, table_times, 3, ((PLANE, high),), ((SEVEN,), (high,)))

    def test_what_falls_away_does_not_count(self):
        # What is above the sixth row of seven goes away again.
        less = (((0, 0, 6), (-1, 1)),)
        self.assertEqual(table_times(3, ((PLANE, PLANE),), ((SEVEN,), (less,))), ((as_terms(box(10, 10, 6)),),))
        high = power(40, 0, 0)
        self.assertEqual(table_times(3, ((high, high),), ((high,), (minus(3, (), high),))), (((),),))

    def test_which_of_several(self):
        high, one = power(0, 0, 40), number(3, ONE)
        cases = (
            (((PLANE,), (high,)), ((SEVEN, high),), 700),
            (((high,), (PLANE,)), ((SEVEN, high),), 46),
            (((PLANE,), (high,)), ((high, SEVEN),), 58),
            # Row 0 is within the bounds.
            (((one,), (PLANE,)), ((high, SEVEN),), 58),
            (((one,), (high,)), ((one, high),), 80),
            # So is the first one of row 0 here, and of its second one the last product alone is not.
            (((one, power(1, 0, 0)), (high, high)), ((high, one), (one, high)), 41),
        )
        for table, other, told in cases:
            self.raises(TooMany, "given", told, table_times, 3, table, other)


class Turned(Told):
    def test_by_hand(self):
        self.assertEqual(turned(2, ((X, Y, UNIT),)), ((X,), (Y,), (UNIT,)))
        self.assertEqual(turned(2, ((X,), (Y,))), ((X, Y),))
        self.assertEqual(turned(2, ((X, Y, ()), (UNIT, SQUARES, X))), ((X, UNIT), (Y, SQUARES), ((), X)))

    def test_twice_is_the_same(self):
        source = random.Random(53)
        for rows, columns in itertools.product(range(1, 6), repeat=2):
            table = some_table(source, 3, rows, columns)
            told = turned(3, table)
            self.assertEqual((len(told), len(told[0])), (columns, rows))
            self.assertEqual(turned(3, told), table)
            for row, column in itertools.product(range(rows), range(columns)):
                self.assertEqual(told[column][row], table[row][column])


class Determinants(Told):
    def test_by_hand(self):
        self.assertEqual(determinant(2, ((SQUARES,),)), SQUARES)
        self.assertEqual(determinant(2, ((X, Y), (Y, X))), (((2, 0), ONE), ((0, 2), (-1, 1))))
        table = ((number(0, HALF), number(0, (1, 3))), ((), number(0, (-2, 5))))
        self.assertEqual(determinant(0, table), number(0, (-1, 5)))
        # The products of differences of 1, x0, x1 (Vandermonde).
        rows = ((UNIT, UNIT, UNIT), (UNIT, X, power(2, 0)), (UNIT, Y, power(0, 2)))
        told = times(2, minus(2, X, UNIT), times(2, minus(2, Y, UNIT), minus(2, Y, X)))
        self.assertEqual(determinant(2, rows), told)

    def test_unit_tables_and_noughts(self):
        for many in range(5):
            for size in range(1, 6):
                self.assertEqual(determinant(many, unit_table(many, size)), number(many, ONE))
                back = number(many, (1 if size in (1, 4, 5) else -1, 1))
                self.assertEqual(determinant(many, unit_table(many, size)[::-1]), back)
                self.assertEqual(determinant(many, (((),) * size,) * size), ())

    def test_orders_of_unit_rows(self):
        for size in range(1, 6):
            for order in itertools.permutations(range(size)):
                rows = tuple(unit_table(1, size)[row] for row in order)
                self.assertEqual(determinant(1, rows), number(1, (-1 if is_odd(order) else 1, 1)))

    def test_by_sums_over_orders(self):
        for _, many, _, table in some_squares(54, 40):
            told = determinant(many, table)
            self.assertEqual(told, as_terms(by_orders(table)))
            self.assertIs(is_polynomial(many, told), True)
            self.assertEqual(determinant(many, turned(many, table)), told)

    def test_rows_exchanged_told_twice_and_added(self):
        for source, many, size, table in some_squares(55, 25):
            if size > 1:
                one, two = source.sample(range(size), 2)
                rows = list(table)
                rows[one], rows[two] = rows[two], rows[one]
                self.assertEqual(determinant(many, tuple(rows)), minus(many, (), determinant(many, table)))
                rows = list(table)
                rows[one] = rows[two]
                self.assertEqual(determinant(many, tuple(rows)), ())
                rows = list(table)
                multiple = scaled(many, some_polynomial(source, many, 1), (table[two],))
                rows[one] = added(many, (table[one],), multiple)[0]
                self.assertEqual(determinant(many, tuple(rows)), determinant(many, table))

    def test_of_products(self):
        for source, many, size, table in some_squares(56, 20):
            other = some_table(source, many, size, size, 1)
            told = times(many, determinant(many, table), determinant(many, other))
            self.assertEqual(determinant(many, table_times(many, table, other)), told)

    def test_the_degree(self):
        table = diagonal(*[power(0, 8)] * 5)
        self.assertEqual(determinant(2, table), power(0, 40))
        self.raises(TooMany, "given", 41, determinant, 2, diagonal(power(1, 8), *[power(0, 8)] * 4))
        self.raises(TooMany, "given", 41, determinant, 2, ((power(40, 0), X), (Y, X)))
        self.raises(TooMany, "given", 80, determinant, 2, ((power(40, 0), X), (Y, power(0, 40))))
        self.raises(TooMany, "given", 200, determinant, 2, diagonal(*[power(20, 20)] * 5))

    def test_how_many_terms(self):
        self.assertEqual(determinant(3, diagonal(PLANE, SIX)), as_terms(box(10, 10, 6)))
        self.raises(TooMany, "given", 700, determinant, 3, diagonal(PLANE, SEVEN))
        self.raises(TooMany, "given", 601, determinant, 3, ((PLANE, power(30, 0, 0)), (number(3, ONE), SIX)))
        # The degree is told ahead of how many terms there are.
        self.raises(TooMany, "given", 41, determinant, 3, diagonal(PLANE, SEVEN, power(0, 17, 0)))

    def test_what_falls_away_does_not_count(self):
        great = power(40, 0)
        self.assertEqual(determinant(2, ((great, great), (great, great))), ())
        self.assertEqual(determinant(2, ((plus(2, great, UNIT), great), (great, minus(2, great, UNIT)))), LESS)
        self.assertEqual(determinant(2, ((great, great, X), (great, great, Y), (UNIT, UNIT, UNIT))), ())
        full = with_terms(2, 600)
        told = determinant(2, ((full, plus(2, full, X)), (full, full)))
        self.assertEqual(told, minus(2, (), as_terms(product_of(as_dict(full), as_dict(X)))))


class Cofactors(Told):
    def test_one_row(self):
        for many in range(5):
            for entry in ((), number(many, HALF)):
                self.assertEqual(cofactors(many, ((entry,),)), ((number(many, ONE),),))

    def test_by_hand(self):
        self.assertEqual(cofactors(2, ((X, Y), (UNIT, SQUARES))), ((SQUARES, minus(2, (), Y)), (LESS, X)))
        # Of a diagonal: the products of the others.
        told = diagonal(times(2, Y, SQUARES), times(2, X, SQUARES), times(2, X, Y))
        self.assertEqual(cofactors(2, diagonal(X, Y, SQUARES)), told)

    def test_each_entry(self):
        for _, many, size, table in some_squares(57, 25):
            told = cofactors(many, table)
            for row, column in itertools.product(range(size), repeat=2):
                rows = [entries[:row] + entries[row + 1:] for at, entries in enumerate(table) if at != column]
                kept = by_orders(rows) if size > 1 else {(0,) * many: Fraction(1)}
                sign = {(0,) * many: Fraction(-1 if (row + column) % 2 else 1)}
                self.assertEqual(told[row][column], as_terms(product_of(sign, kept)) if any(kept.values()) else ())

    def test_either_way_round(self):
        for _, many, size, table in some_squares(58, 25):
            told = scaled(many, determinant(many, table), unit_table(many, size))
            self.assertEqual(table_times(many, table, cofactors(many, table)), told)
            self.assertEqual(table_times(many, cofactors(many, table), table), told)

    def test_the_degree_of_the_first_one(self):
        a, b, c = power(20, 0), power(0, 21), power(22, 0)
        # On the diagonal the first one leaves out a, the second one b, the third one c.
        self.raises(TooMany, "given", 43, cofactors, 2, diagonal(a, b, c))
        self.raises(TooMany, "given", 42, cofactors, 2, diagonal(b, a, c))
        self.raises(TooMany, "given", 41, cofactors, 2, diagonal(c, a, b))
        self.raises(TooMany, "given", 43, cofactors, 2, diagonal(X, b, c))
        self.raises(TooMany, "given", 42, cofactors, 2, diagonal(a, X, c))
        self.raises(TooMany, "given", 41, cofactors, 2, diagonal(a, b, X))
        self.assertEqual(cofactors(2, diagonal(a, a, a))[2][2], power(40, 0))

    def test_row_by_row(self):
        # Row 0, column 1 leaves out row 1 and column 0: there it is 42, in row 1, column 0, it is 41.
        table = (((), power(40, 0), ()), (power(39, 0), (), ()), ((), (), power(0, 2)))
        self.raises(TooMany, "given", 42, cofactors, 2, table)
        self.raises(TooMany, "given", 41, cofactors, 2, turned(2, table))

    def test_how_many_terms(self):
        one = number(3, ONE)
        self.assertEqual(len(cofactors(3, diagonal(one, PLANE, SIX))[0][0]), 600)
        for order in itertools.permutations((one, PLANE, SEVEN)):
            self.raises(TooMany, "given", 700, cofactors, 3, diagonal(*order))
        high = power(0, 0, 40)
        self.raises(TooMany, "given", 700, cofactors, 3, diagonal(high, PLANE, SEVEN))
        self.raises(TooMany, "given", 46, cofactors, 3, diagonal(PLANE, high, SEVEN))
        self.raises(TooMany, "given", 58, cofactors, 3, diagonal(SEVEN, PLANE, high))

    def test_what_falls_away_does_not_count(self):
        great = power(40, 0)
        told = cofactors(2, ((great, great, X), (great, great, X), (UNIT, UNIT, UNIT)))
        less = minus(2, great, X)
        self.assertEqual(told, ((less, minus(2, (), less), ()), (minus(2, (), less), less, ()), ((), (), ())))


class OwnRules(Told):
    def test_by_hand(self):
        self.assertEqual(own_rule(2, ((SQUARES,),)), (minus(2, (), SQUARES),))
        self.assertEqual(own_rule(2, (((),),)), ((),))
        table = ((X, UNIT), (SQUARES, Y))
        less = minus(2, (), plus(2, X, Y))
        self.assertEqual(own_rule(2, table), (minus(2, times(2, X, Y), SQUARES), less))
        # T - 1 taken three times with itself.
        self.assertEqual(own_rule(0, unit_table(0, 3)), tuple(number(0, (worth, 1)) for worth in (-1, 3, -3)))
        self.assertEqual(own_rule(1, (((((1,), HALF),),),)), ((((1,), (-1, 2)),),))

    def test_noughts_and_diagonals(self):
        for size in range(1, 6):
            self.assertEqual(own_rule(2, (((),) * size,) * size), ((),) * size)
            for many in range(5):
                factors = own_rule(many, unit_table(many, size))
                self.assertEqual(factors[0], number(many, ((-1) ** size, 1)))
                self.assertEqual(factors[-1], number(many, (-size, 1)))

    def put_in(self, many, table, size, rule):
        """The sum of powers of the table with these factors, and 1 ahead of the highest one."""
        power, total = unit_table(many, size), (((),) * size,) * size
        for factor in rule:
            total = added(many, total, scaled(many, factor, power))
            power = table_times(many, power, table)
        return added(many, total, power)

    def test_put_in_the_place_of_t(self):
        for source, many, size, table in some_squares(59, 30):
            rule = own_rule(many, table)
            self.assertIs(type(rule), tuple)
            self.assertEqual(len(rule), size)
            self.assertEqual(self.put_in(many, table, size, rule), (((),) * size,) * size)
            self.assertEqual(own_rule(many, turned(many, table)), rule)

    def test_the_determinant_of_t_less_the_table(self):
        for _, many, size, table in some_squares(60, 25):
            rule = own_rule(many, table)
            for worth in range(-1, size + 1):
                steps = scaled(many, number(many, (worth, 1)), unit_table(many, size))
                less = added(many, steps, scaled(many, number(many, (-1, 1)), table))
                total = number(many, (worth ** size, 1))
                for index, factor in enumerate(rule):
                    total = plus(many, total, times(many, number(many, (worth ** index, 1)), factor))
                self.assertEqual(determinant(many, less), total)

    def test_the_rules_of_two_tables(self):
        source = random.Random(61)
        for size in (1, 2, 3):
            one, two = some_table(source, 2, size, size, 1), some_table(source, 2, size, size, 1)
            for table in (one, two):
                first = self.put_in(2, table, size, own_rule(2, one))
                second = self.put_in(2, table, size, own_rule(2, two))
                self.assertEqual(table_times(2, first, second), (((),) * size,) * size)

    def test_the_degree(self):
        great, high = power(21, 0), power(0, 22)
        # C0 is the product of all on a diagonal, C1 has, of three, the products of two.
        self.raises(TooMany, "given", 43, own_rule, 2, diagonal(great, high))
        self.raises(TooMany, "given", 44, own_rule, 2, diagonal(great, high, X))
        self.raises(TooMany, "given", 43, own_rule, 2, diagonal(great, high, ()))
        self.raises(TooMany, "given", 200, own_rule, 2, diagonal(*[power(40, 0)] * 5))
        self.assertEqual(own_rule(2, diagonal(power(40, 0), ())), ((), (((40, 0), (-1, 1)),)))
        self.assertEqual(own_rule(2, diagonal(*[power(8, 0)] * 5))[0], (((40, 0), (-1, 1)),))

    def test_how_many_terms(self):
        one = number(3, ONE)
        self.assertEqual(own_rule(3, diagonal(PLANE, SIX))[0], as_terms(box(10, 10, 6)))
        self.raises(TooMany, "given", 700, own_rule, 3, diagonal(PLANE, SEVEN))
        self.raises(TooMany, "given", 601, own_rule, 3, ((PLANE, power(30, 0, 0)), (one, SIX)))

    def test_which_of_several(self):
        # C0 has 700 terms, C1 also their sum with both others.
        self.raises(TooMany, "given", 700, own_rule, 3, diagonal(PLANE, SEVEN, number(3, HALF)))
        # C0 is nought, C1 has the told ones alone.
        self.raises(TooMany, "given", 700, own_rule, 3, diagonal(PLANE, SEVEN, ()))
        self.raises(TooMany, "given", 58, own_rule, 3, diagonal(PLANE, power(0, 0, 40), ()))
        # C0 has too many terms, C1 too great a degree.
        table = ((PLANE, (), ()), ((), power(0, 0, 40), number(3, (-1, 1))), ((), SEVEN, ()))
        self.raises(TooMany, "given", 700, own_rule, 3, table)

    def test_what_falls_away_does_not_count(self):
        great = power(40, 0)
        table = ((great, great), (minus(2, (), great), minus(2, (), great)))
        self.assertEqual(own_rule(2, table), ((), ()))
        self.assertEqual(own_rule(2, ((great, great), (great, great))), ((), (((40, 0), (-2, 1)),)))


class WrongArguments(Told):
    NO_TABLES = (
        None,
        0,
        (),
        ((),),
        [],
        [(X, Y), (Y, X)],
        ([X, Y], [Y, X]),
        ((X, Y), (X,)),
        ((X, None), (Y, X)),
        ((X, power(1)), (Y, X)),
        ((X,) * 6,) * 5,
        ((X,),) * 6,
        X,
        Prickly(),
    )
    NOT_SQUARE = (((X, Y),), ((X,), (Y,)), ((X,) * 5,) * 4, ((X,) * 4,) * 5)

    def wrong_at(self, place, values):
        return tuple((place, value, InvalidTable, "given", value) for value in values)

    def test_of_one_table(self):
        names, right = ("many", "table"), (2, ROOT)
        self.all_wrong(turned, names, right, WRONG_MANY + self.wrong_at(1, self.NO_TABLES))
        for function in (determinant, cofactors, own_rule):
            wrong = WRONG_MANY + self.wrong_at(1, self.NO_TABLES + self.NOT_SQUARE)
            self.all_wrong(function, names, right, wrong)
            for thing in THINGS:
                self.raises(InvalidTable, "given", thing, function, 2, thing)
                self.raises(InvalidTable, "given", thing, turned, 2, thing)
        for table in self.NOT_SQUARE:
            turned(2, table)

    def test_of_two_tables(self):
        names, right = ("many", "table", "other"), (2, ROOT, ROOT)
        # None of these has as many rows as ROOT has columns.
        unlike = (((X, Y),), ((X,), (Y,), (X,)), ((X, Y),) * 5)
        wrong = WRONG_MANY + self.wrong_at(1, self.NO_TABLES) + self.wrong_at(2, self.NO_TABLES + unlike)
        self.all_wrong(table_times, names, right, wrong)
        for other in (((X,),), ((X, Y),), ((X,),) * 3):
            self.raises(InvalidTable, "given", other, table_times, 2, ((X, Y),), other)
        for thing in THINGS:
            self.raises(InvalidTable, "given", thing, table_times, 2, thing, ROOT)
            self.raises(InvalidTable, "given", thing, table_times, 2, ROOT, thing)

    def test_too_many_is_told_last(self):
        great = ((power(40, 0),),)
        column = great * 2
        self.raises(InvalidTable, "given", None, table_times, 2, great, None)
        self.raises(InvalidTable, "given", column, table_times, 2, great, column)
        self.raises(TooMany, "given", 80, table_times, 2, column, great)
        self.raises(InvalidTable, "given", column, determinant, 2, column)


if __name__ == "__main__":
    unittest.main()
