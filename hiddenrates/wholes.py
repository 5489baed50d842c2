"""Sums of products of unknowns with whole numbers ahead, without bounds on their degree and their terms.

Quotients, tables, changes and looks are worked out in them: on the way there may be more than a polynomial holds,
and it may fall away again. Each is a dict of whole numbers by their places; a place stands for powers.
"""

from math import lcm

from hiddenrates.polynomials import told_terms
from hiddenrates.ratios import multiplied

# The powers of up to five polynomials multiplied by each other stay below it, and so do their degrees.
STEP = 1000


def place_of(powers):
    """The place of POWERS: a whole number that adds up where powers do, greater for terms that stand ahead."""
    place = sum(powers)
    for power in powers:
        place = place * STEP + power
    return place


def powers_at(many, place):
    """The powers of MANY unknowns that have PLACE."""
    powers = []
    for _ in range(many):
        place, power = divmod(place, STEP)
        powers.append(power)
    return tuple(powers[::-1])


def scale_of(polynomials):
    """The least whole number above 0 that makes all fractions of POLYNOMIALS whole."""
    scale = 1
    for one in polynomials:
        for _, fraction in one:
            scale = lcm(scale, fraction[1])
    return scale


def whole_of(one, scale):
    """The terms ONE, taken times SCALE, which makes their fractions whole, by their places."""
    return {place_of(powers): fraction[0] * (scale // fraction[1]) for powers, fraction in one}


def add_product(kept, one, two, sign):
    """Add to KEPT the product of ONE and TWO, taken times SIGN."""
    for place, whole in one.items():
        factor = sign * whole
        for other, more in two.items():
            kept[place + other] = kept.get(place + other, 0) + factor * more


def without_noughts(kept):
    """KEPT without the places that have 0."""
    return {place: whole for place, whole in kept.items() if whole != 0}


def told_from(many, kept, factor):
    """The polynomial in MANY unknowns of what is KEPT, taken times the fraction FACTOR, if it is within bounds."""
    places = sorted([place for place in kept if kept[place] != 0], reverse=True)
    return told_terms(tuple([(powers_at(many, place), multiplied((kept[place], 1), factor)) for place in places]))


def sum_of_products(many, row, other):
    """The sum of the products of two rows of as many polynomials, entry by entry, if it is within bounds."""
    scale, scale_beside = scale_of(row), scale_of(other)
    kept = row_along([whole_of(one, scale) for one in row], [whole_of(two, scale_beside) for two in other])
    return told_from(many, kept, (1, scale * scale_beside))


def row_along(row, other):
    """The sum of the products of two rows of as many whole ones, entry by entry."""
    kept = {}
    for one, two in zip(row, other):
        add_product(kept, one, two, 1)
    return without_noughts(kept)


def minor_along(row, minors, columns):
    """The minor in COLUMNS of some rows of whole ones and of ROW behind them, by the MINORS of those ahead."""
    kept = {}
    sign = 1
    for index in reversed(range(len(columns))):
        add_product(kept, row[columns[index]], minors[columns[:index] + columns[index + 1:]], sign)
        sign = -sign
    return without_noughts(kept)


def slopes_along(many, kept):
    """The list of the slopes of KEPT by each of MANY unknowns."""
    slopes = [{} for _ in range(many)]
    steps = [place_of([1 if index == unknown else 0 for index in range(many)]) for unknown in range(many)]
    for place, whole in kept.items():
        for unknown, power in enumerate(powers_at(many, place)):
            if power > 0:
                slopes[unknown][place - steps[unknown]] = whole * power
    return slopes
