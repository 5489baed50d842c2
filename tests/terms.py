"""Polynomials for tests: some of them, what is none, and sums and products by Python's own fractions."""

import itertools
from fractions import Fraction

from hiddenrates.errors import InvalidNumber, InvalidPolynomial
from samples import NIL, ONE, Prickly, fraction, pair

X, Y = (((1, 0), ONE),), (((0, 1), ONE),)
SQUARES = (((2, 0), ONE), ((0, 1), (-1, 2)))


def as_dict(one):
    """The fractions by the powers, in Python's own fractions."""
    return {powers: fraction(number) for powers, number in one}


def as_terms(kept):
    """The terms in order."""
    order = sorted(kept, key=lambda powers: (sum(powers), powers), reverse=True)
    return tuple((powers, pair(kept[powers])) for powers in order if kept[powers] != 0)


def sum_of(*parts):
    """The sum, as a dict, without any bounds."""
    kept = {}
    for part in parts:
        for powers, factor in part.items():
            kept[powers] = kept.get(powers, 0) + factor
    return kept


def product_of(one, two):
    """The product, as a dict, without any bounds."""
    kept = {}
    for powers, factor in one.items():
        for others, other in two.items():
            place = tuple(map(sum, zip(powers, others)))
            kept[place] = kept.get(place, 0) + factor * other
    return kept


def is_odd(order):
    return sum(one > two for one, two in itertools.combinations(order, 2)) % 2 == 1


def by_orders(table):
    """The determinant as the sum over all orders of the columns, as a dict without bounds."""
    many = next((len(one[0][0]) for row in table for one in row if one), 0)
    total = {}
    for order in itertools.permutations(range(len(table))):
        product = {(0,) * many: Fraction(-1 if is_odd(order) else 1)}
        for row, column in zip(table, order):
            product = product_of(product, as_dict(row[column]))
        total = sum_of(total, product)
    return total


def some_fraction(source):
    return Fraction(source.choice((-5, -2, -1, 0, 1, 2, 3, 7)), source.choice((1, 1, 2, 3, 10)))


def some_polynomial(source, many, degree=3, terms=6):
    kept = {}
    for _ in range(source.randrange(terms)):
        powers = [0] * many
        if many:
            for _ in range(source.randrange(degree + 1)):
                powers[source.randrange(many)] += 1
        kept[tuple(powers)] = some_fraction(source)
    return as_terms(kept)


def all_powers(many, degree):
    return [powers for powers in itertools.product(range(degree + 1), repeat=many) if sum(powers) <= degree]


def with_terms(many, count, degree=40):
    """A polynomial of just as many terms, of a degree up to DEGREE."""
    powers = sorted(all_powers(many, degree), key=lambda powers: (sum(powers), powers))
    assert len(powers) >= count
    return as_terms({each: Fraction(1) for each in powers[:count]})


def box(*lengths):
    """The sum of all products with powers below the told ones, as a dict."""
    return {powers: Fraction(1) for powers in itertools.product(*map(range, lengths))}


def power(*powers):
    """A product of unknowns alone, as a polynomial."""
    return ((powers, ONE),)


WRONG_MANY = tuple((0, value, InvalidNumber, "given", value) for value in (-1, 5, None, True, False, "2", (2,), [2]))
# None of these is a polynomial in 2 unknowns.
NO_POLYNOMIALS = (
    None,
    0,
    [],
    list(X),
    X + X,
    Y + X,
    (((1,), ONE),),
    (((1, 0, 0), ONE),),
    (((1, 0), NIL),),
    (((1, 0), (2, 4)),),
    (((41, 0), ONE),),
    with_terms(2, 601),
    Prickly(),
)


def wrong_at(place):
    return tuple((place, value, InvalidPolynomial, "given", value) for value in NO_POLYNOMIALS)
