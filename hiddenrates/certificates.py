"""Certificates: claims that are so, each one with a paper that the checker accepts."""

from hiddenrates.choices import fewest, left_of, lesser_choices, need_kind, wider
from hiddenrates.knowledge import fields_of, knowledge, minor_of, taken_looks
from hiddenrates.nets import need_assignment, need_fillings, need_net, parting, seen_in
from hiddenrates.polynomials import told_sum
from hiddenrates.ratios import multiplied
from hiddenrates.renamings import is_renaming, need_names


def certify_alike(net, one, other):
    """That ONE and OTHER are alike, or parted by a look."""
    look = parting(net, one, other)
    if look is None:
        return (("alike", net, one, other), ())
    return (("parted", net, one, other), look)


def certify_runs(net, one, other, fillings):
    """That the same is seen of FILLINGS by ONE and by OTHER, or not the same."""
    need_net(net)
    need_assignment(net, one)
    need_assignment(net, other)
    need_fillings(net, fillings)
    alike = seen_in(net, one, fillings) == seen_in(net, other, fillings)
    return (("runs alike" if alike else "runs unlike", net, one, other, fillings), ())


def certify_known(net, polynomial):
    """That POLYNOMIAL is known, or free."""
    told = knowledge(net, polynomial)
    if told[0] == "known":
        return (("known", net, polynomial), told[1:])
    return (("free", net, polynomial), told[1])


def certify_rank(net):
    """How many looks of NET are taken."""
    taken = taken_looks(net)
    # Where D is not 0, neither the taken looks' slopes nor the fields, which have D each at another unknown, hang.
    return (("rank", net, len(taken)), (taken, fields_of(net), _point_beside(net[1], minor_of(net))))


def _point_beside(many, one):
    """An assignment of whole numbers at which the polynomial ONE, which is not nought, is not 0."""
    point = ()
    for unknown in range(many):
        # There are no more zeros than the greatest power of the unknown.
        size = 0
        while _put_in(one, unknown, size) == ():
            size += 1
        one = _put_in(one, unknown, size)
        point = point + ((size, 1),)
    return point


def _put_in(one, unknown, size):
    """The polynomial ONE with the whole number SIZE in the place of UNKNOWN."""
    terms = []
    for powers, fraction in one:
        factor = 1
        for _ in range(powers[unknown]):
            factor = factor * size
        left = powers[:unknown] + (0,) + powers[unknown + 1:]
        terms.append((left, multiplied(fraction, (factor, 1))))
    return told_sum(terms)


def certify_enough(net, kind, choice, polynomial):
    """That POLYNOMIAL is known with the tanks of CHOICE, too, or free even so."""
    more = wider(net, kind, choice)
    told = knowledge(more, polynomial)
    if told[0] == "known":
        return (("enough", net, kind, choice, polynomial), told[1:])
    return (("free", more, polynomial), told[1])


def certify_needed(net, kind, polynomial):
    """How many more tanks of KIND are needed at least; one more than are left if all of them are not enough."""
    need_net(net)
    need_kind(kind)
    choice = fewest(net, polynomial, kind)
    count = len(left_of(net, kind)) + 1 if choice is None else len(choice)
    paper = [(lesser, _field_beside(net, kind, lesser, polynomial)) for lesser in lesser_choices(net, kind, count)]
    return (("needed", net, kind, count, polynomial), tuple(paper))


def _field_beside(net, kind, choice, polynomial):
    """The field by which POLYNOMIAL is free with the tanks of CHOICE, which are not enough."""
    return knowledge(wider(net, kind, choice), polynomial)[1]


def certify_renaming(net, tanks, names):
    """That TANKS and NAMES are a renaming of NET, or none."""
    need_net(net)
    need_names(tanks)
    need_names(names)
    if is_renaming(net, (tanks, names)):
        return (("renaming", net, tanks, names), ())
    return (("no renaming", net, tanks, names), ())
