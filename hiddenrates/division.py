"""Polynomials divided without rest."""

from heapq import heapify, heappop, heappush
from math import gcd

from hiddenrates.errors import InvalidPolynomial
from hiddenrates.polynomials import need_many, need_polynomial
from hiddenrates.ratios import lowest
from hiddenrates.wholes import powers_at, scale_of, told_from, whole_of


def quotient(many, one, two):
    """The polynomial that times TWO is ONE, None if there is none."""
    need_many(many)
    need_polynomial(many, one)
    need_polynomial(many, two)
    if two == ():
        raise InvalidPolynomial(two)
    scale, scale_beside = scale_of([one]), scale_of([two])
    whole = whole_of(two, scale_beside)
    common = _common_divisor(whole)
    divider = {place: whole[place] // common for place in whole}
    found = _divided(many, whole_of(one, scale), divider)
    if found is None:
        return None
    return told_from(many, found, lowest(scale_beside, scale * common))


def _common_divisor(kept):
    """The greatest common divisor of the whole numbers KEPT."""
    common = 0
    for whole in kept.values():
        common = gcd(common, whole)
    return common


def _divided(many, one, divider):
    """What times DIVIDER, whose whole numbers have no common divisor above 1, is ONE; None if there is none."""
    left = {place: one[place] for place in one}
    head = max(list(divider))
    queue = [-place for place in left]
    heapify(queue)
    found = {}
    while queue:
        place = -heappop(queue)
        if left[place] != 0:
            # Without a common divisor in DIVIDER, what divides whole numbers without rest is whole itself (Gauss).
            factor, rest = divmod(left[place], divider[head])
            if rest != 0 or not _is_product(many, place, head):
                return None
            found[place - head] = factor
            for other in divider:
                _lessen(left, queue, place - head + other, factor * divider[other])
    return found


def _is_product(many, place, head):
    """Whether the powers at PLACE are those at HEAD and more."""
    return all([power >= least for power, least in zip(powers_at(many, place), powers_at(many, head))])


def _lessen(left, queue, place, whole):
    """Take WHOLE away from what is LEFT at PLACE, which comes into the QUEUE if it is new."""
    if place not in left:
        heappush(queue, -place)
    left[place] = left.get(place, 0) - whole
