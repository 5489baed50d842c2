"""Tables of polynomials: their products, determinants, cofactors and own rules."""

from itertools import combinations

from hiddenrates.errors import InvalidTable
from hiddenrates.polynomials import is_polynomial, need_many
from hiddenrates.ratios import UNIT, negative
from hiddenrates.wholes import (
    minor_along,
    place_of,
    powers_at,
    scale_of,
    sum_of_products,
    told_from,
    whole_of,
)

MOST_ROWS = 5
MOST_COLUMNS = 5


def is_table(many, value):
    """Whether VALUE, whatever it is, is a table of polynomials in MANY unknowns."""
    need_many(many)
    if type(value) is not tuple or not 1 <= len(value) <= MOST_ROWS:
        return False
    if not all(_is_row(many, row) for row in value):
        return False
    return all([len(row) == len(value[0]) for row in value])


def _is_row(many, row):
    """Whether ROW may be a row of a table."""
    if type(row) is not tuple or not 1 <= len(row) <= MOST_COLUMNS:
        return False
    return all(is_polynomial(many, one) for one in row)


def need_table(many, table):
    """Refuse what is no table of polynomials in MANY unknowns."""
    if not is_table(many, table):
        raise InvalidTable(table)


def need_square(many, table):
    """Refuse what is no table of as many rows as columns."""
    need_table(many, table)
    if len(table) != len(table[0]):
        raise InvalidTable(table)


def table_times(many, table, other):
    """The product of TABLE and OTHER: rows times columns."""
    need_many(many)
    need_table(many, table)
    need_table(many, other)
    if len(other) != len(table[0]):
        raise InvalidTable(other)
    columns = _columns_of(other)
    return tuple([tuple([sum_of_products(many, row, column) for column in columns]) for row in table])


def turned(many, table):
    """TABLE turned about: its columns as rows."""
    need_many(many)
    need_table(many, table)
    return _columns_of(table)


def _columns_of(table):
    """The tuple of the columns of TABLE."""
    return tuple([tuple([row[column] for row in table]) for column in range(len(table[0]))])


def determinant(many, table):
    """The determinant of TABLE."""
    need_many(many)
    need_square(many, table)
    kept, scale = _whole_determinant(table)
    return told_from(many, kept, (1, scale))


def cofactors(many, table):
    """The cofactors of TABLE: times TABLE they have its determinant along the diagonal and nought besides."""
    need_many(many)
    need_square(many, table)
    indexes = range(len(table))
    return tuple([tuple([_cofactor(many, table, row, column) for column in indexes]) for row in indexes])


def _cofactor(many, table, row, column):
    """The entry of the cofactors of TABLE in ROW and COLUMN."""
    # The cofactors stand turned about: it is a row of TABLE that COLUMN leaves out.
    rows = [entries[:row] + entries[row + 1:] for entries in table[:column] + table[column + 1:]]
    kept, scale = _whole_determinant(rows)
    sign = -1 if (row + column) & 1 else 1
    return told_from(many, kept, (sign, scale))


def own_rule(many, table):
    """The factors C0, C1 .. of the powers of TABLE in the sum that is nought, 1 being that of the highest power."""
    need_many(many)
    need_square(many, table)
    kept, scale = _whole_determinant([_less_row(many, row, index) for index, row in enumerate(table)])
    rule = [{} for _ in range(len(table) + 1)]
    for place, whole in kept.items():
        powers = powers_at(many + 1, place)
        rule[powers[0]][place_of(powers[1:])] = whole
    # The highest power of T has 1 ahead, which the rule leaves out.
    return tuple([told_from(many, factor, (1, scale)) for factor in rule[:-1]])


def _less_row(many, row, index):
    """The row with INDEX of T times the unit table less the table with ROW there, T ahead of all unknowns."""
    entries = [tuple([((0,) + powers, negative(fraction)) for powers, fraction in one]) for one in row]
    entries[index] = (((1,) + (0,) * many, UNIT),) + entries[index]
    return entries


def _whole_determinant(rows):
    """The determinant of ROWS, taken times a scale that makes it whole, and this scale."""
    product = 1
    minors = {(): {0: 1}}
    for size in range(1, len(rows) + 1):
        scale = scale_of(rows[size - 1])
        row = [whole_of(one, scale) for one in rows[size - 1]]
        product = product * scale
        minors = {columns: minor_along(row, minors, columns) for columns in combinations(range(len(rows)), size)}
    return (minors[tuple(range(len(rows)))], product)
