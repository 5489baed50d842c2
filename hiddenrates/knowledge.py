"""What is known by the looks of a net, and the fields along which no look changes."""

from itertools import combinations

from hiddenrates.errors import TooMany
from hiddenrates.looks import look_polynomials, looks_of, need_asked
from hiddenrates.nets import need_net
from hiddenrates.polynomials import all_slopes, degree_of, minus, number
from hiddenrates.ratios import UNIT
from hiddenrates.series import change
from hiddenrates.tables import determinant
from hiddenrates.wholes import minor_along, scale_of, slopes_along, whole_of

MOST_SUM = 12
MOST_SUM_OF_FOUR = 8


def taken_looks(net):
    """The looks of NET whose slopes do not hang together with those of the looks taken ahead of them."""
    need_net(net)
    return _taken_of(net)[0]


def columns_of(net):
    """The least tuple of unknowns in which the minor of the taken looks' slopes is not nought."""
    need_net(net)
    return _taken_of(net)[2]


def minor_of(net):
    """The minor D of the taken looks' slopes in the columns."""
    need_net(net)
    _, rows, columns = _taken_of(net)
    return _minor(net[1], rows, columns)


def fields_of(net):
    """The fields of the unknowns that are none of the columns: they change no look."""
    need_net(net)
    _, rows, columns = _taken_of(net)
    return _fields(net[1], rows, columns)


def knowledge(net, polynomial):
    """("known", D, POLYNOMIALS) if the looks tell POLYNOMIAL, else ("free", FIELD) with what changes it alone."""
    need_net(net)
    need_asked(net, polynomial)
    taken, rows, columns = _taken_of(net)
    _need_sum(net[1], _sum_over(taken) + degree_of(polynomial))
    for field in _fields(net[1], rows, columns):
        if change(net[1], field, polynomial) != ():
            return ("free", field)
    slopes = all_slopes(net[1], polynomial)
    factors = {look: _factor(net[1], rows, columns, index, slopes) for index, look in enumerate(taken)}
    return ("known", _minor(net[1], rows, columns), tuple([factors.get(look, ()) for look in looks_of(net)]))


def unknowns_known(net):
    """The unknowns of NET that are known: those that no field changes."""
    fields = fields_of(net)
    return tuple([unknown for unknown in range(net[1]) if all(field[unknown] == () for field in fields)])


def _taken_of(net):
    """The taken looks of NET, their slopes and the columns, if the sum over these looks is within its bound."""
    many = net[1]
    taken, rows, columns, minors = [], [], (), {(): {0: 1}}
    for look, one in zip(looks_of(net), look_polynomials(net)):
        row = slopes_along(many, whole_of(one, scale_of([one])))
        # Where a minor of the taken rows is not nought, those with one more column tell whether ROW hangs together.
        if any(minor_along(row, minors, wider) != {} for wider in _wider(many, columns)):
            taken.append(look)
            rows.append(all_slopes(many, one))
            minors = {each: minor_along(row, minors, each) for each in combinations(range(many), len(taken))}
            columns = min([each for each in minors if minors[each] != {}])
    _need_sum(many, _sum_over(taken))
    return (tuple(taken), rows, columns)


def _wider(many, columns):
    """COLUMNS with one more of MANY unknowns, for each one that is none of them."""
    return [tuple(sorted(columns + (unknown,))) for unknown in _free(many, columns)]


def _free(many, columns):
    """Those of MANY unknowns that are none of COLUMNS, ascending."""
    return [unknown for unknown in range(many) if unknown not in columns]


def _sum_over(taken):
    """The sum of K - 1 over the TAKEN looks."""
    return sum([look[0] - 1 for look in taken])


def _need_sum(many, total):
    """Refuse a sum of degrees that may lead to more terms than a polynomial in MANY unknowns holds."""
    if total > (MOST_SUM_OF_FOUR if many == 4 else MOST_SUM):
        raise TooMany(total)


def _minor(many, rows, columns):
    """The minor of ROWS in COLUMNS, in the order in which these stand."""
    if columns == ():
        return number(many, UNIT)
    return determinant(many, tuple([tuple([row[column] for column in columns]) for row in rows]))


def _fields(many, rows, columns):
    """The fields of the unknowns that are none of COLUMNS, by the slopes in ROWS."""
    return tuple([_field(many, rows, columns, free) for free in _free(many, columns)])


def _field(many, rows, columns, free):
    """The field of the unknown FREE, which stands still under all ROWS."""
    field = [()] * many
    field[free] = _minor(many, rows, columns)
    for column in columns:
        replaced = tuple([free if each == column else each for each in columns])
        field[column] = minus(many, (), _minor(many, rows, replaced))
    return tuple(field)


def _factor(many, rows, columns, index, slopes):
    """What the row with INDEX is taken times in the sum of ROWS that is D times SLOPES (Cramer)."""
    return _minor(many, rows[:index] + [slopes] + rows[index + 1:], columns)
