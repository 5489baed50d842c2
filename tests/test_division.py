"""Point 15, with 4 to 6 and 14: polynomials divided without rest."""

import random
import unittest
from fractions import Fraction

from hiddenrates.division import quotient
from hiddenrates.errors import InvalidPolynomial, TooMany
from hiddenrates.polynomials import is_polynomial, minus, number, plus, times, unknown_of
from samples import HALF, NIL, ONE, THINGS, THIRD, Told
from terms import SQUARES, WRONG_MANY, X, Y, as_dict, as_terms, box, power, product_of, some_fraction
from terms import some_polynomial, sum_of, wrong_at

UNIT = power(0, 0)


def less_one(many, unknown, degree=1):
    """The unknown, as often as told, less 1."""
    powers = tuple(degree if index == unknown else 0 for index in range(many))
    return minus(many, power(*powers), number(many, ONE))


def steps(many):
    """The product of all unknowns less 1: times it, a box of powers has its corners left."""
    told = number(many, ONE)
    for unknown in range(many):
        told = times(many, told, less_one(many, unknown))
    return told


class Examples(unittest.TestCase):
    def test_as_they_stand(self):
        x, y = unknown_of(2, 0), unknown_of(2, 1)
        both = times(2, plus(2, x, y), minus(2, x, y))
        self.assertEqual(
            [
                quotient(2, both, plus(2, x, y)) == minus(2, x, y),
                quotient(2, plus(2, both, x), plus(2, x, y)),
                quotient(2, (), x),
                quotient(2, x, number(2, (2, 1))),
            ],
            [True, None, (), (((1, 0), (1, 2)),)],
        )


class Quotients(Told):
    def test_by_hand(self):
        # x0 x0 x0 - 1 is (x0 - 1) (x0 x0 + x0 + 1).
        cube = less_one(1, 0, 3)
        self.assertEqual(quotient(1, cube, less_one(1, 0)), power(2) + power(1) + power(0))
        self.assertEqual(quotient(1, cube, power(2) + power(1) + power(0)), less_one(1, 0))
        self.assertEqual(quotient(2, power(3, 2), power(1, 2)), power(2, 0))
        self.assertEqual(quotient(2, SQUARES, SQUARES), UNIT)
        self.assertEqual(quotient(2, SQUARES, UNIT), SQUARES)
        # (x0 + 1/2) (x1 - 1/3) by 3 x1 - 1.
        one = (((1, 1), ONE), ((1, 0), (-1, 3)), ((0, 1), HALF), ((0, 0), (-1, 6)))
        self.assertEqual(quotient(2, one, (((0, 1), (3, 1)), ((0, 0), (-1, 1)))), (((1, 0), THIRD), ((0, 0), (1, 6))))

    def test_products_by_each_of_both(self):
        source = random.Random(31)
        for _ in range(300):
            many = source.randrange(5)
            one, two = some_polynomial(source, many), some_polynomial(source, many)
            both = times(many, one, two)
            if two != ():
                self.assertEqual(quotient(many, both, two), one)
            if one != ():
                self.assertEqual(quotient(many, both, one), two)
            if both != ():
                third = some_polynomial(source, many)
                self.assertEqual(quotient(many, times(many, both, third), both), third)

    def test_a_term_more(self):
        source = random.Random(32)
        divided = 0
        for _ in range(300):
            many = source.randrange(1, 5)
            one, two = some_polynomial(source, many), some_polynomial(source, many)
            powers = tuple(source.randrange(4) for _ in range(many))
            more = ((powers, (source.choice((-2, 1, 3)), source.choice((1, 5)))),)
            if two == ():
                continue
            told = quotient(many, plus(many, times(many, one, two), more), two)
            # Whatever times TWO is a single term has one term, and TWO has, too.
            if len(two) == 1 and all(least <= each for least, each in zip(two[0][0], powers)):
                divided += 1
                self.assertEqual(times(many, told, two), plus(many, times(many, one, two), more))
            else:
                self.assertIsNone(told)
        self.assertGreater(divided, 10)

    def test_nought_divided(self):
        for many in range(5):
            self.assertEqual(quotient(many, (), number(many, (-2, 3))), ())
        self.assertEqual([quotient(2, (), X), quotient(2, (), SQUARES), quotient(1, (), less_one(1, 0, 40))], [()] * 3)

    def test_by_numbers(self):
        self.assertEqual(quotient(2, SQUARES, number(2, (-2, 3))), (((2, 0), (-3, 2)), ((0, 1), (3, 4))))
        self.assertEqual(quotient(2, SQUARES, number(2, (1, 7))), (((2, 0), (7, 1)), ((0, 1), (-7, 2))))
        # Divided by 7, whole numbers do not stay whole.
        self.assertEqual(quotient(2, X + Y, number(2, (7, 1))), (((1, 0), (1, 7)), ((0, 1), (1, 7))))
        self.assertEqual(quotient(1, number(1, HALF), number(1, (-3, 4))), number(1, (-2, 3)))
        self.assertIsNone(quotient(2, number(2, HALF), X))

    def test_no_unknowns(self):
        self.assertEqual(quotient(0, number(0, HALF), number(0, (-3, 1))), number(0, (-1, 6)))
        self.assertEqual(quotient(0, number(0, (6, 5)), number(0, (6, 5))), number(0, ONE))
        self.assertEqual(quotient(0, (), number(0, HALF)), ())

    def test_of_one_term_each(self):
        source = random.Random(34)
        for _ in range(20):
            value = (some_fraction(source) or Fraction(1), some_fraction(source) or Fraction(1))
            one, two = as_terms({(1,): value[0]}), as_terms({(1,): value[1]})
            self.assertEqual(quotient(1, one, two), as_terms({(0,): value[0] / value[1]}))

    def test_common_divisors_and_fractions(self):
        # 6 x0 + 4 divides x0 + 2/3, though 6 does not divide 1.
        one, two = (((1,), ONE), ((0,), (2, 3))), (((1,), (6, 1)), ((0,), (4, 1)))
        self.assertEqual(quotient(1, one, two), number(1, (1, 6)))
        one, two = (((1,), (-6, 5)), ((0,), (4, 7))), (((2,), (3, 8)), ((0,), (9, 1)))
        self.assertEqual(quotient(1, as_terms(product_of(as_dict(one), as_dict(two))), one), two)
        great = 10 ** 300 + 1
        two = (((1,), (great, 3)), ((0,), (2, great)))
        self.assertEqual(quotient(1, times(1, two, two), two), two)

    def test_none_at_the_first_step(self):
        self.assertIsNone(quotient(2, X, Y))
        self.assertIsNone(quotient(2, X, power(1, 1)))
        self.assertIsNone(quotient(2, X, power(2, 0)))
        self.assertIsNone(quotient(2, UNIT, X))
        self.assertIsNone(quotient(2, X, X + Y))
        self.assertIsNone(quotient(2, power(0, 3), SQUARES))
        # The degree is enough, the powers are not.
        self.assertIsNone(quotient(3, power(4, 0, 0), power(1, 0, 1)))

    def test_none_late(self):
        self.assertIsNone(quotient(1, plus(1, less_one(1, 0, 40), number(1, (1, 9))), less_one(1, 0)))
        self.assertIsNone(quotient(1, power(40), less_one(1, 0)))
        self.assertIsNone(quotient(2, plus(2, times(2, SQUARES, SQUARES), UNIT), SQUARES))
        # The last of what is left has a first term that fits, but its number does not.
        self.assertIsNone(quotient(1, (((2,), ONE), ((1,), (3, 1)), ((0,), (3, 1))), (((1,), ONE), ((0,), ONE))))
        self.assertIsNone(quotient(1, (((2,), (4, 1)), ((0,), ONE)), (((1,), (2, 1)), ((0,), ONE))))
        self.assertEqual(
            quotient(1, (((2,), (4, 1)), ((0,), (-1, 1))), (((1,), (2, 1)), ((0,), ONE))),
            (((1,), (2, 1)), ((0,), (-1, 1))),
        )

    def test_the_degree_that_falls_away(self):
        # What is left has more terms and lesser degrees on the way, none of them told.
        self.assertEqual(quotient(1, less_one(1, 0, 40), less_one(1, 0)), as_terms(box(40)))
        self.assertEqual(quotient(2, as_terms(box(20, 20)), as_terms(box(20, 1))), as_terms(box(1, 20)))

    def test_told_right_by_its_product(self):
        source = random.Random(33)
        found = 0
        for _ in range(400):
            many = source.randrange(1, 4)
            one, two = some_polynomial(source, many, 3, 4), some_polynomial(source, many, 1, 3)
            if two != ():
                told = quotient(many, one, two)
                if told is not None:
                    found += 1
                    self.assertIs(is_polynomial(many, told), True)
                    self.assertEqual(times(many, told, two), one)
        self.assertGreater(found, 100)


class Bounds(Told):
    def divided(self, kept):
        """What KEPT, in 3 unknowns, times all steps is, by these steps."""
        return quotient(3, as_terms(product_of(kept, as_dict(steps(3)))), steps(3))

    def test_too_many_terms(self):
        full = box(10, 10, 6)
        self.assertEqual(self.divided(full), as_terms(full))
        self.assertEqual(len(as_terms(full)), 600)
        more = sum_of(full, {(0, 0, 6): Fraction(-5, 3)})
        product = as_terms(product_of(more, as_dict(steps(3))))
        self.assertIs(is_polynomial(3, product), True)
        self.raises(TooMany, "given", 601, quotient, 3, product, steps(3))
        product = as_terms(product_of(box(11, 11, 5), as_dict(steps(3))))
        self.raises(TooMany, "given", 605, quotient, 3, product, steps(3))

    def test_far_too_many_terms(self):
        one = number(4, ONE)
        for unknown in range(4):
            one = times(4, one, less_one(4, unknown, 9))
        self.raises(TooMany, "given", 9 ** 4, quotient, 4, one, steps(4))

    def test_none_where_there_would_be_too_many(self):
        one = as_terms(product_of(box(11, 11, 5), as_dict(steps(3))))
        self.assertIsNone(quotient(3, plus(3, one, number(3, ONE)), steps(3)))


class WrongArguments(Told):
    def test_each_and_two_at_once(self):
        wrong = WRONG_MANY + wrong_at(1) + wrong_at(2) + ((2, (), InvalidPolynomial, "given", ()),)
        self.all_wrong(quotient, ("many", "one", "two"), (2, SQUARES, X), wrong)

    def test_nought_is_told_last(self):
        for many in range(5):
            self.raises(InvalidPolynomial, "given", (), quotient, many, number(many, HALF), ())
            self.raises(InvalidPolynomial, "given", (), quotient, many, (), ())
        self.raises(InvalidPolynomial, "given", NIL, quotient, 1, NIL, ())

    def test_anything(self):
        for thing in THINGS:
            self.raises(InvalidPolynomial, "given", thing, quotient, 2, thing, X)
            self.raises(InvalidPolynomial, "given", thing, quotient, 2, X, thing)

    def test_many_counts(self):
        self.raises(InvalidPolynomial, "given", X, quotient, 1, X, power(1))
        self.raises(InvalidPolynomial, "given", X, quotient, 1, power(1), X)


if __name__ == "__main__":
    unittest.main()
