"""Looks: what is seen of 1 that was filled in some beats ago, as polynomials in the unknown shares."""

from math import lcm

from hiddenrates.errors import InvalidLook, InvalidPolynomial
from hiddenrates.nets import need_net
from hiddenrates.polynomials import all_slopes, degree_of, is_polynomial
from hiddenrates.ratios import is_whole, is_within
from hiddenrates.wholes import place_of, row_along, told_from

MOST_ASKED = 4


def looks_of(net):
    """The tuple of the looks (K, S, F) of NET, in ascending order."""
    need_net(net)
    many, _, _, filled, seen = net
    return tuple([(power, tank, source) for power in range(2 * many) for tank in seen for source in filled])


def is_look(net, value):
    """Whether VALUE, whatever it is, is a look of NET."""
    if type(value) is not tuple or len(value) != 3:
        return False
    power, tank, source = value
    # True is equal to 1, but no number: the kind is asked ahead of the tanks.
    if not is_within(power, 0, 2 * net[0] - 1) or not is_whole(tank) or not is_whole(source):
        return False
    return tank in net[4] and source in net[3]


def need_look(net, look):
    """Refuse what is no look of NET."""
    if not is_look(net, look):
        raise InvalidLook(look)


def is_asked(net, value):
    """Whether VALUE, whatever it is, is a polynomial in the unknowns of NET of a degree that may be asked for."""
    return is_polynomial(net[1], value) and degree_of(value) <= MOST_ASKED


def need_asked(net, polynomial):
    """Refuse what is no polynomial in the unknowns of NET of a degree that may be asked for."""
    if not is_asked(net, polynomial):
        raise InvalidPolynomial(polynomial)


def look_polynomial(net, look):
    """The polynomial of LOOK: the entry of the power K of the table of NET in the row S and the column F."""
    need_net(net)
    need_look(net, look)
    return _polynomials(net, (look,))[0]


def look_polynomials(net):
    """The tuple of the polynomials of all looks of NET, in their order."""
    return _polynomials(net, looks_of(net))


def _polynomials(net, looks):
    """The tuple of the polynomials of LOOKS, of which there is one at least."""
    scale = _scale_of(net)
    table = _whole_table(net, scale)
    most = max([look[0] for look in looks])
    columns = {source: _columns_from(table, source, most) for source in net[3]}
    scales = [1]
    for _ in range(most):
        scales.append(scales[-1] * scale)
    return tuple([told_from(net[1], columns[source][power][tank], (1, scales[power])) for power, tank, source in looks])


def _scale_of(net):
    """The least whole number above 0 that makes the told shares of NET whole."""
    scale = 1
    for _, _, share in net[2]:
        if share[0] != "x":
            scale = lcm(scale, share[1])
    return scale


def _whole_table(net, scale):
    """The table of NET in its unknowns, taken times SCALE, which makes its told shares whole."""
    many = net[0]
    table = [[{0: scale} if row == column else {} for column in range(many)] for row in range(many)]
    for start, end, share in net[2]:
        place, size = _whole_share(net[1], share, scale)
        _add(table[start][start], place, -size)
        if end is not None:
            _add(table[end][start], place, size)
    return table


def _whole_share(unknowns, share, scale):
    """The place of SHARE, and how often it is there, taken times SCALE."""
    if share[0] == "x":
        return (place_of([1 if index == share[1] else 0 for index in range(unknowns)]), scale)
    return (0, share[0] * (scale // share[1]))


def _add(kept, place, size):
    """Add SIZE to what is KEPT at PLACE."""
    kept[place] = kept.get(place, 0) + size


def _columns_from(table, source, most):
    """The column of the tank SOURCE in the powers of TABLE from 0 up to MOST."""
    columns = [[{0: 1} if tank == source else {} for tank in range(len(table))]]
    for _ in range(most):
        columns.append([row_along(row, columns[-1]) for row in table])
    return columns


def slopes_of(net, polynomial):
    """The tuple of the slopes of POLYNOMIAL by each unknown of NET."""
    need_net(net)
    need_asked(net, polynomial)
    return all_slopes(net[1], polynomial)
