"""Fractions as pairs (N, M) in lowest terms, M above 0, and rows of them."""

from math import gcd

NOUGHT = (0, 1)
UNIT = (1, 1)
TOLD_BOUND = 999


def is_whole(value):
    """Whether VALUE is a whole number: True and False are none."""
    return type(value) is int


def is_within(value, least, most):
    """Whether VALUE is a whole number from LEAST up to MOST."""
    return is_whole(value) and least <= value <= most


def is_ratio(value):
    """Whether VALUE is a fraction."""
    if type(value) is not tuple or len(value) != 2:
        return False
    above, below = value
    return is_whole(above) and is_whole(below) and below > 0 and gcd(above, below) == 1


def is_told(value):
    """Whether VALUE is a fraction that may be told of a share or a filling."""
    return is_ratio(value) and abs(value[0]) <= TOLD_BOUND and value[1] <= TOLD_BOUND


def lowest(above, below):
    """The fraction ABOVE / BELOW in lowest terms, BELOW above 0."""
    divisor = gcd(above, below)
    return (above // divisor, below // divisor)


def added(one, two):
    """The sum of two fractions."""
    # Most fractions that are added are whole: these need no common divisor.
    if one[1] == 1 and two[1] == 1:
        return (one[0] + two[0], 1)
    return lowest(one[0] * two[1] + two[0] * one[1], one[1] * two[1])


def negative(one):
    """0 less the fraction ONE."""
    return (-one[0], one[1])


def lessened(one, two):
    """The fraction ONE less the fraction TWO."""
    return added(one, negative(two))


def multiplied(one, two):
    """The product of two fractions."""
    if one[1] == 1 and two[1] == 1:
        return (one[0] * two[0], 1)
    return lowest(one[0] * two[0], one[1] * two[1])


def inverse(one):
    """1 over the fraction ONE, which is not 0."""
    if one[0] < 0:
        return (-one[1], -one[0])
    return (one[1], one[0])


def row_times(row, other):
    """The sum of the products of two rows of as many fractions, entry by entry."""
    worth = NOUGHT
    for one, two in zip(row, other):
        worth = added(worth, multiplied(one, two))
    return worth


def reduced_rows(rows, width):
    """Rows of WIDTH fractions with the same combinations as ROWS.

    The first entry other than 0 of each is 1, at places that ascend, at which all others have 0.
    """
    left = list(rows)
    done = []
    for place in range(width):
        beginning = [row for row in left if row[place] != NOUGHT]
        if beginning:
            leader = _scaled(beginning[0], inverse(beginning[0][place]))
            others = [row for row in left if row[place] == NOUGHT] + beginning[1:]
            left = [_cleared(row, leader, place) for row in others]
            done = [_cleared(row, leader, place) for row in done] + [leader]
    return done


def vanishing_rows(rows, width):
    """The reduced basis of all rows of WIDTH fractions whose products with each of ROWS are 0."""
    # Turned about, each entry at a leading place is told by free entries ahead of it.
    # So a free entry of 1, beside free entries of 0, is the first entry of its row.
    told = [row[::-1] for row in reduced_rows([row[::-1] for row in rows], width)]
    leaders = {_last_place(row): row for row in told}
    free = [place for place in range(width) if place not in leaders]
    return [_row_from(place, leaders, width) for place in free]


def _row_from(place, leaders, width):
    """The row with 1 at the free PLACE and 0 at the other free ones."""
    row = [NOUGHT] * width
    row[place] = UNIT
    for leading in leaders:
        row[leading] = negative(leaders[leading][place])
    return tuple(row)


def _last_place(row):
    """The place of the last entry of ROW that is not 0."""
    return max([place for place, entry in enumerate(row) if entry != NOUGHT])


def _scaled(row, factor):
    """ROW, each entry taken times FACTOR."""
    return [multiplied(entry, factor) for entry in row]


def _cleared(row, leader, place):
    """ROW less as much of LEADER, which has 1 at PLACE, as leaves 0 there."""
    factor = row[place]
    if factor == NOUGHT:
        return row
    return [lessened(entry, multiplied(factor, taken)) for entry, taken in zip(row, leader)]
