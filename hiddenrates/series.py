"""Series up to a power of T: their products, worths along rows of them, and the courses of fields."""

from hiddenrates.errors import InvalidField, InvalidNumber, InvalidRow, InvalidSeries
from hiddenrates.polynomials import all_slopes, is_fraction, is_polynomial, need_fractions, need_many, need_polynomial
from hiddenrates.ratios import NOUGHT, UNIT, added, is_within, multiplied
from hiddenrates.wholes import sum_of_products

MOST_DEGREE = 8


def is_series(value):
    """Whether VALUE, whatever it is, is a series."""
    if type(value) is not tuple or not 1 <= len(value) <= MOST_DEGREE + 1:
        return False
    return all(is_fraction(part) for part in value)


def _is_series_of(degree, value):
    """Whether VALUE, whatever it is, is a series of DEGREE."""
    return is_series(value) and len(value) == degree + 1


def need_degree(degree):
    """Refuse what is no degree of a series."""
    if not is_within(degree, 0, MOST_DEGREE):
        raise InvalidNumber(degree)


def need_series(degree, series):
    """Refuse what is no series of DEGREE."""
    if not _is_series_of(degree, series):
        raise InvalidSeries(series)


def need_row(many, degree, row):
    """Refuse what is no tuple of MANY series of DEGREE."""
    if type(row) is not tuple or len(row) != many or not all(_is_series_of(degree, series) for series in row):
        raise InvalidRow(row)


def need_field(many, field):
    """Refuse what is no tuple of MANY polynomials."""
    if type(field) is not tuple or len(field) != many or not all(is_polynomial(many, one) for one in field):
        raise InvalidField(field)


def series_times(degree, series, other):
    """The product of two series of DEGREE."""
    need_degree(degree)
    need_series(degree, series)
    need_series(degree, other)
    return _product(degree, series, other)


def _product(degree, series, other):
    """The product of two series, up to DEGREE."""
    parts = [NOUGHT] * (degree + 1)
    for index, part in enumerate(series):
        if part != NOUGHT:
            for behind in range(degree + 1 - index):
                parts[index + behind] = added(parts[index + behind], multiplied(part, other[behind]))
    return tuple(parts)


def worth_along(many, one, degree, row):
    """The series that comes of putting ROW in the place of the unknowns of the polynomial ONE."""
    need_many(many)
    need_polynomial(many, one)
    need_degree(degree)
    need_row(many, degree, row)
    return _worth_along(one, degree, row)


def _worth_along(one, degree, row):
    """The worth of ONE along ROW, up to DEGREE."""
    powers_of = [_powers_up_to(degree, series, _greatest(one, index)) for index, series in enumerate(row)]
    total = [NOUGHT] * (degree + 1)
    for powers, fraction in one:
        product = _constant(degree, fraction)
        for risen, power in zip(powers_of, powers):
            if power > 0:
                product = _product(degree, product, risen[power])
        total = [added(part, more) for part, more in zip(total, product)]
    return tuple(total)


def _greatest(one, unknown):
    """The greatest power of UNKNOWN in ONE."""
    return max([0] + [powers[unknown] for powers, _ in one])


def _constant(degree, fraction):
    """The series of DEGREE that is FRACTION."""
    return (fraction,) + (NOUGHT,) * degree


def _powers_up_to(degree, series, most):
    """The powers of SERIES from 0 up to MOST."""
    powers = [_constant(degree, UNIT)]
    for _ in range(most):
        powers.append(_product(degree, powers[-1], series))
    return powers


def change(many, field, one):
    """What FIELD changes the polynomial ONE by: the sum of its polynomials times the slopes of ONE."""
    need_many(many)
    need_field(many, field)
    need_polynomial(many, one)
    return sum_of_products(many, field, all_slopes(many, one))


def course(many, field, assignment, degree):
    """The row of series of DEGREE that begins at ASSIGNMENT and whose slopes in T are what FIELD is along it."""
    need_many(many)
    need_field(many, field)
    need_fractions(many, assignment)
    need_degree(degree)
    row = tuple([(share,) for share in assignment])
    for reached in range(degree):
        # What the field is up to a power of T tells the coefficients at the next one.
        slopes = [_worth_along(one, reached, row)[reached] for one in field]
        row = tuple([series + (multiplied(part, (1, reached + 1)),) for series, part in zip(row, slopes)])
    return row
