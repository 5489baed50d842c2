"""Polynomials in up to four unknowns, with fractions ahead of their terms."""

from hiddenrates.errors import (
    InvalidAssignment,
    InvalidFraction,
    InvalidNumber,
    InvalidOrder,
    InvalidPolynomial,
    TooMany,
)
from hiddenrates.ratios import NOUGHT, UNIT, added, is_ratio, is_whole, is_within, multiplied, negative

MOST_UNKNOWNS = 4
MOST_DEGREE = 40
MOST_TERMS = 600


def is_fraction(value):
    """Whether VALUE, whatever it is, is a fraction."""
    return is_ratio(value)


def is_polynomial(many, value):
    """Whether VALUE, whatever it is, is a polynomial in MANY unknowns."""
    need_many(many)
    if type(value) is not tuple or len(value) > MOST_TERMS:
        return False
    if not all(_is_term(many, term) for term in value):
        return False
    return all([_standing(one[0]) > _standing(two[0]) for one, two in zip(value, value[1:])])


def _is_term(many, term):
    """Whether TERM is a product of MANY unknowns, of a degree within bounds, and a fraction other than 0."""
    if type(term) is not tuple or len(term) != 2:
        return False
    powers, fraction = term
    if type(powers) is not tuple or len(powers) != many:
        return False
    if not all(is_within(power, 0, MOST_DEGREE) for power in powers):
        return False
    return sum(powers) <= MOST_DEGREE and is_ratio(fraction) and fraction != NOUGHT


def _standing(powers):
    """What terms are ordered by: the degree, then the powers; the greater one stands ahead."""
    return (sum(powers), powers)


def need_many(many):
    """Refuse what is no number of unknowns."""
    if not is_within(many, 0, MOST_UNKNOWNS):
        raise InvalidNumber(many)


def need_polynomial(many, one):
    """Refuse what is no polynomial in MANY unknowns."""
    if not is_polynomial(many, one):
        raise InvalidPolynomial(one)


def need_unknown(many, unknown):
    """Refuse what is none of MANY unknowns."""
    if not is_within(unknown, 0, many - 1):
        raise InvalidNumber(unknown)


def number(many, fraction):
    """The polynomial in MANY unknowns that is FRACTION everywhere."""
    need_many(many)
    if not is_fraction(fraction):
        raise InvalidFraction(fraction)
    return _in_order({(0,) * many: fraction})


def unknown_of(many, unknown):
    """The polynomial in MANY unknowns that is the one with the index UNKNOWN."""
    need_many(many)
    need_unknown(many, unknown)
    powers = tuple([1 if index == unknown else 0 for index in range(many)])
    return ((powers, UNIT),)


def plus(many, one, two):
    """The sum of two polynomials."""
    need_many(many)
    need_polynomial(many, one)
    need_polynomial(many, two)
    return told_sum(one + two)


def minus(many, one, two):
    """The polynomial ONE less the polynomial TWO."""
    need_many(many)
    need_polynomial(many, one)
    need_polynomial(many, two)
    turned = tuple([(powers, negative(fraction)) for powers, fraction in two])
    return told_sum(one + turned)


def times(many, one, two):
    """The product of two polynomials."""
    need_many(many)
    need_polynomial(many, one)
    need_polynomial(many, two)
    # The first terms' product is the first term: a degree too great is known ahead of all work.
    degree = degree_of(one) + degree_of(two)
    if degree > MOST_DEGREE:
        raise TooMany(degree)
    kept = {}
    for powers, fraction in one:
        for others, factor in two:
            place = tuple([power + other for power, other in zip(powers, others)])
            kept[place] = added(kept.get(place, NOUGHT), multiplied(fraction, factor))
    return told_terms(_in_order(kept))


def told_sum(terms):
    """The polynomial of TERMS in any order, those with the same powers added up, if it is within bounds."""
    return told_terms(_in_order(_collected(terms)))


def _collected(terms):
    """The fractions by their powers, those with the same powers added up."""
    kept = {}
    for powers, fraction in terms:
        kept[powers] = added(kept.get(powers, NOUGHT), fraction)
    return kept


def _in_order(kept):
    """The terms, in order, of fractions that are KEPT by their powers, but for those that are 0."""
    left = [powers for powers in kept if kept[powers] != NOUGHT]
    return tuple([(powers, kept[powers]) for powers in sorted(left, key=_standing, reverse=True)])


def degree_of(one):
    """The degree of the polynomial ONE, 0 of nought."""
    return sum(one[0][0]) if one else 0


def told_terms(terms):
    """TERMS, which are in order, if they are not beyond the bounds of a polynomial."""
    if degree_of(terms) > MOST_DEGREE:
        raise TooMany(degree_of(terms))
    if len(terms) > MOST_TERMS:
        raise TooMany(len(terms))
    return terms


def slope(many, one, unknown):
    """The slope of the polynomial ONE by the unknown with the index UNKNOWN."""
    need_many(many)
    need_polynomial(many, one)
    need_unknown(many, unknown)
    # Each power goes down at the same place, so the terms that are left stay in order.
    return tuple([_term_slope(term, unknown) for term in one if term[0][unknown] > 0])


def _term_slope(term, unknown):
    """The slope of a term that has a power of the unknown."""
    powers, fraction = term
    lower = tuple([power - 1 if index == unknown else power for index, power in enumerate(powers)])
    return (lower, multiplied(fraction, (powers[unknown], 1)))


def all_slopes(many, one):
    """The tuple of the slopes of the polynomial ONE by each of MANY unknowns."""
    return tuple([slope(many, one, unknown) for unknown in range(many)])


def worth(many, one, assignment):
    """The fraction that comes of putting ASSIGNMENT in the place of the unknowns of ONE."""
    need_many(many)
    need_polynomial(many, one)
    need_fractions(many, assignment)
    powers_of = [_powers_up_to(share, degree_of(one)) for share in assignment]
    total = NOUGHT
    for powers, fraction in one:
        product = fraction
        for risen, power in zip(powers_of, powers):
            product = multiplied(product, risen[power])
        total = added(total, product)
    return total


def need_fractions(many, assignment):
    """Refuse what is no tuple of MANY fractions."""
    if type(assignment) is not tuple or len(assignment) != many:
        raise InvalidAssignment(None)
    for index, share in enumerate(assignment):
        if not is_fraction(share):
            raise InvalidAssignment(index)


def _powers_up_to(share, degree):
    """The powers of SHARE from 0 up to DEGREE."""
    powers = [UNIT]
    for _ in range(degree):
        powers.append(multiplied(powers[-1], share))
    return powers


def renamed(many, one, order):
    """The polynomial ONE with the unknown ORDER[J] in the place of each unknown J."""
    need_many(many)
    need_polynomial(many, one)
    if not is_order(many, order):
        raise InvalidOrder(order)
    return _in_order({_moved(powers, order): fraction for powers, fraction in one})


def is_order(many, order):
    """Whether ORDER, whatever it is, is a tuple in which each index below MANY stands once."""
    if type(order) is not tuple or not all(is_whole(index) for index in order):
        return False
    return sorted(order) == list(range(many))


def _moved(powers, order):
    """POWERS, each at the index that ORDER tells for it."""
    moved = [0] * len(powers)
    for power, index in zip(powers, order):
        moved[index] = power
    return tuple(moved)
