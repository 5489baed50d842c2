"""Nets for tests of looks, and what their looks are by the walks, with ranks by Python's own fractions."""

import functools
import itertools
import random
from fractions import Fraction

from hiddenrates.errors import InvalidNet, InvalidPolynomial
from samples import HALF, NETS, NIL, ONE, THIRD, Prickly, fraction
from terms import X, Y, as_dict, as_terms, power, product_of, sum_of

MUG = (2, 2, ((0, 1, ("x", 0)), (0, None, ("x", 1))), (0,), (0,))
GLASS = MUG[:4] + ((0, 1),)
TWINS = (3, 2, ((0, 1, ("x", 0)), (0, 2, ("x", 1)), (1, 0, HALF), (2, 0, HALF)), (0,), (0,))
# Tank 1 is never reached from tank 0, so no look tells anything.
APART = (2, 3, ((1, 0, ("x", 0)), (1, None, ("x", 2))), (0,), (0,))
# x1 stands in no pipe, x0 in three of them.
IDLE = (3, 3, ((0, 1, ("x", 0)), (1, 2, ("x", 0)), (2, 0, ("x", 0)), (2, None, ("x", 2))), (0, 1), (1, 2))
CUP = (1, 1, ((0, None, ("x", 0)),), (0,), (0,))
FULL = (3, 4, ((0, 1, ("x", 0)), (1, 2, ("x", 1)), (2, 0, ("x", 2)), (2, None, ("x", 3))), (0, 1, 2), (0, 1, 2))
LOST = (4, 2, ((0, 1, ("x", 0)), (1, 0, ("x", 1)), (2, 3, ("x", 0))), (0,), (3,))
UNKNOWING = (2, 0, ((0, 1, HALF), (1, None, THIRD)), (0,), (1,))
# The unknowns are told but by walks that go forward and back: the sums of K - 1 are 12, 13 and 14.
LED_ON = ((0, 1, ONE), (1, 2, ONE), (2, 3, ONE))
TWELVE = (4, 3, LED_ON + ((0, None, ("x", 2)), (2, None, ("x", 1)), (1, 0, ("x", 0))), (0,), (3,))
THIRTEEN = (4, 3, LED_ON + ((0, None, ("x", 2)), (3, None, ("x", 0)), (3, 0, ("x", 1))), (0,), (3,))
FOURTEEN = (4, 3, LED_ON + ((3, 0, ("x", 0)), (3, None, ("x", 1)), (3, 1, ("x", 2))), (0,), (3,))
# The same with four unknowns: 8, 9 and 10.
OUT = ((1, None, ("x", 0)), (0, None, ("x", 1)))
EIGHT = (3, 4, OUT + ((0, 2, ("x", 3)), (1, 0, ("x", 2)), (2, 1, ("x", 3))), (2,), (1,))
AROUND = ((0, 1, ("x", 1)), (1, 2, ("x", 1)), (2, 0, ("x", 0)))
NINE = (3, 4, AROUND + ((1, None, ("x", 3)), (2, None, ("x", 2))), (2,), (2,))
TEN = (3, 4, ((2, 0, ("x", 3)), (1, 2, ("x", 2)), (0, 1, ("x", 0)), (1, None, ("x", 1))), (2,), (1,))
# x3 is in no pipe, or in one that is not told apart from another one.
THREE = FULL[:2] + (FULL[2][:3],) + FULL[3:]
BESIDE = (3, 4, OUT + ((1, 0, ("x", 2)), (1, 0, ("x", 3)), (0, 1, HALF)), (1,), (0,))
ASKED = NETS + (MUG, GLASS, TWINS, APART, IDLE, CUP, FULL, LOST, UNKNOWING, THREE, BESIDE)

WRONG_NETS = tuple(
    (0, value, InvalidNet, "given", value)
    for value in (None, 5, (), list(MUG), MUG[:4], MUG + ((0,),), (True,) + MUG[1:], MUG[:4] + ([0],), Prickly())
)
# None of these is a polynomial of a degree up to 4 in two unknowns.
NOT_ASKED = (None, 0, [], list(X), Y + X, (((1,), ONE),), (((1, 0), NIL),), power(5, 0), power(2, 3), Prickly())


def not_asked_at(place):
    return tuple((place, value, InvalidPolynomial, "given", value) for value in NOT_ASKED)


def some_net(source, many, unknowns, pipes, filled=1, seen=1):
    """A net with about as many PIPES, three of four with an unknown."""
    told = []
    for _ in range(pipes):
        start = source.randrange(many)
        end = source.choice([tank for tank in range(many) if tank != start] + [None])
        share = source.choice((HALF, THIRD, ONE, (-1, 2), (5, 3), NIL))
        if unknowns and source.random() < 0.75:
            share = ("x", source.randrange(unknowns))
        if (start, end, share) not in told:
            told.append((start, end, share))
    tanks = [tuple(sorted(source.sample(range(many), min(many, count)))) for count in (filled, seen)]
    return (many, unknowns, tuple(told), tanks[0], tanks[1])


def some_nets(seed, count):
    """Nets of one to four tanks with up to four unknowns."""
    source = random.Random(seed)
    for _ in range(count):
        many = source.randrange(1, 5)
        unknowns = source.randrange(min(4, 7 - many) + 1)
        yield some_net(source, many, unknowns, source.randrange(8), source.randrange(1, 3), source.randrange(1, 3))


def share_of(net, share):
    """The share of a pipe, as a dict."""
    if share[0] == "x":
        return {tuple(int(index == share[1]) for index in range(net[1])): Fraction(1)}
    return {(0,) * net[1]: fraction(share)} if share[0] else {}


def less(one):
    """The dict with its sign turned."""
    return {powers: -factor for powers, factor in one.items()}


@functools.cache
def entries_of(net):
    """The table of the net in its unknowns, as dicts, by row and column."""
    table = {}
    for row, column in itertools.product(range(net[0]), repeat=2):
        parts = [share_of(net, share) for start, end, share in net[2] if start == column and end == row]
        if row == column:
            parts = [{(0,) * net[1]: Fraction(1)}]
            parts += [less(share_of(net, share)) for start, _, share in net[2] if start == row]
        table[row, column] = as_dict(as_terms(sum_of(*parts)))
    return table


def by_walks(net, look):
    """The polynomial of the look: the sum over all walks, step by step from F to S, of the products."""
    table = entries_of(net)
    steps, goal, start = look
    total = {}
    left = [((start,), {(0,) * net[1]: Fraction(1)})]
    while left:
        walk, product = left.pop()
        if len(walk) == steps + 1:
            if walk[-1] == goal:
                total = sum_of(total, product)
            continue
        for tank in range(net[0]):
            if table[tank, walk[-1]]:
                left.append((walk + (tank,), product_of(product, table[tank, walk[-1]])))
    return as_terms(total)


@functools.cache
def columns_by(net, source, many):
    """The column of SOURCE in the table multiplied by itself MANY times, as dicts."""
    if many == 0:
        return [{(0,) * net[1]: Fraction(1)} if tank == source else {} for tank in range(net[0])]
    table, column = entries_of(net), columns_by(net, source, many - 1)
    return [
        as_dict(as_terms(sum_of(*[product_of(table[row, at], column[at]) for at in range(net[0])])))
        for row in range(net[0])
    ]


@functools.cache
def by_powers(net, look):
    """The polynomial of the look for any K: a column multiplied by the table K times."""
    return as_terms(columns_by(net, look[2], look[0])[look[1]])


def triples(net, many):
    """All looks of the net for K below MANY."""
    return [look for look in itertools.product(range(many), net[4], net[3])]


def slopes_by(many, one):
    """The slopes of a polynomial, as dicts."""
    slopes = []
    for unknown in range(many):
        kept = {}
        for powers, factor in as_dict(one).items():
            if powers[unknown]:
                lower = powers[:unknown] + (powers[unknown] - 1,) + powers[unknown + 1:]
                kept[lower] = factor * powers[unknown]
        slopes.append(kept)
    return slopes


def worth_by(one, point):
    """The worth of a dict at a point of Python's own fractions."""
    total = Fraction(0)
    for powers, factor in one.items():
        for share, each in zip(point, powers):
            factor = factor * share ** each
        total += factor
    return total


def rank_of(rows):
    """The rank of rows of fractions."""
    rows, rank = [list(row) for row in rows], 0
    for column in range(len(rows[0]) if rows else 0):
        leading = next((at for at in range(rank, len(rows)) if rows[at][column]), None)
        if leading is not None:
            rows[rank], rows[leading] = rows[leading], rows[rank]
            for at in range(rank + 1, len(rows)):
                factor = rows[at][column] / rows[rank][column]
                rows[at] = [one - factor * two for one, two in zip(rows[at], rows[rank])]
            rank += 1
    return rank


# Rows of polynomials hang together if they do at points that are nothing special.
POINTS = tuple(
    tuple(Fraction(*pair) for pair in row)
    for row in (
        ((101, 7), (-211, 11), (307, 13), (401, 17)),
        ((-503, 19), (601, 23), (701, 3), (-809, 29)),
    )
)


def rank_by(rows):
    """The rank of rows of dicts."""
    return max(rank_of([[worth_by(one, point) for one in row] for row in rows]) for point in POINTS)


@functools.cache
def taken_by(net):
    """The taken looks of the net, and the columns."""
    taken, rows = [], []
    for look in triples(net, 2 * net[0]):
        row = slopes_by(net[1], by_powers(net, look))
        if net[1] and rank_by(rows + [row]) > len(rows):
            taken.append(look)
            rows.append(row)
    for columns in itertools.combinations(range(net[1]), len(rows)):
        if rows == [] or rank_by([[row[column] for column in columns] for row in rows]) == len(rows):
            return tuple(taken), columns


def changed_by(field, slopes):
    """The sum of the field's polynomials times the slopes, as a polynomial without bounds."""
    return as_terms(sum_of(*[product_of(as_dict(one), two) for one, two in zip(field, slopes)]))
