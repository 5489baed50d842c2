"""Sums of products of unknowns with whole numbers ahead, without bounds on their degree and their terms.

Quotients, tables and changes are worked out in them: on the way there may be more than a polynomial holds,
and it may fall away again. Each is a dict of whole numbers by their places; a place stands for powers.
"""

from math import lcm

from hiddenrates.polynomials import told_terms
from hiddenrates.ratios import multiplied

# The powers of up to five polynomials multiplied by each other stay below it, and so do their degrees.
STEP = 1000


def place_of(powers):
    """The place of POWERS: a whole number that adds up where powers do, greater for terms that stand ahead."""
    place = sum(powers)
    for power in powers:
        place = place * STEP + power
    return place


def powers_at(many, place):
    """The powers of MANY unknowns that have PLACE."""
    powers = []
    for _ in range(many):
        place, power = divmod(place, STEP)
        powers.append(power)
    return tuple(powers[::-1])


def scale_of(polynomials):
    """The least whole number above 0 that makes all fractions of POLYNOMIALS whole."""
    scale = 1
    for one in polynomials:
        for _, fraction in one:
            scale = lcm(scale, fraction[1])
    return scale


def whole_of(one, scale):
    """The terms ONE, taken times SCALE, which makes their fractions whole, by their places."""
    return {place_of(powers): fraction[0] * (scale // fraction[1]) for powers, fraction in one}


def add_product(kept, one, two, sign):
    """Add to KEPT the product of ONE and TWO, taken times SIGN."""
    for place, whole in one.items():
        factor = sign * whole
        for other, more in two.items():
            kept[place + other] = kept.get(place + other, 0) + factor * more


def without_noughts(kept):
    """KEPT without the places that have 0."""
    return {place: whole for place, whole in kept.items() if whole != 0}


def told_from(many, kept, factor):
    """The polynomial in MANY unknowns of what is KEPT, taken times the fraction FACTOR, if it is within bounds."""
    places = sorted([place for place in kept if kept[place] != 0], reverse=True)
    return told_terms(tuple([(powers_at(many, place), multiplied((kept[place], 1), factor)) for place in places]))


def sum_of_products(many, row, other):
    """The sum of the products of two rows of as many polynomials, entry by entry, if it is within bounds."""
    scale, scale_beside = scale_of(row), scale_of(other)
    kept = {}
    for one, two in zip(row, other):
        add_product(kept, whole_of(one, scale), whole_of(two, scale_beside), 1)
    return told_from(many, kept, (1, scale * scale_beside))
