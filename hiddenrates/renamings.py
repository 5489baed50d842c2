"""Renamings: other names for tanks and unknowns by which a net stays the same net."""

from itertools import permutations

from hiddenrates.errors import InvalidRenaming
from hiddenrates.looks import need_asked
from hiddenrates.nets import need_assignment, need_net
from hiddenrates.polynomials import is_order, renamed
from hiddenrates.ratios import is_whole

MOST_NAMES = 4


def renamings(net):
    """All renamings of NET, ascending."""
    need_net(net)
    orders = [names for names in permutations(range(net[1]))]
    pairs = [(tanks, names) for tanks in permutations(range(net[0])) for names in orders]
    return tuple([pair for pair in pairs if _keeps(net, pair)])


def _keeps(net, pair):
    """Whether NET stays the same by the new names of PAIR, in which each tank and each unknown stands once."""
    tanks, names = pair
    if not all(tanks[tank] == tank for tank in net[3] + net[4]):
        return False
    # Unlike pipes get unlike names, so none is left over if each one is a pipe of the net.
    return all(_renamed_pipe(pipe, tanks, names) in net[2] for pipe in net[2])


def _renamed_pipe(pipe, tanks, names):
    """PIPE by the new names."""
    start, end, share = pipe
    if share[0] == "x":
        share = ("x", names[share[1]])
    return (tanks[start], None if end is None else tanks[end], share)


def is_renaming(net, value):
    """Whether VALUE, whatever it is, is a renaming of NET."""
    if type(value) is not tuple or len(value) != 2:
        return False
    return is_order(net[0], value[0]) and is_order(net[1], value[1]) and _keeps(net, value)


def is_names(value):
    """Whether VALUE, whatever it is, is a tuple of up to four whole numbers."""
    return type(value) is tuple and len(value) <= MOST_NAMES and all(is_whole(name) for name in value)


def need_names(names):
    """Refuse what is no tuple of up to four whole numbers."""
    if not is_names(names):
        raise InvalidRenaming(names)


def need_renaming(net, renaming):
    """Refuse what is no renaming of NET."""
    if not is_renaming(net, renaming):
        raise InvalidRenaming(renaming)


def led(net, renaming, assignment):
    """The assignment that ASSIGNMENT is led to: each share stands at the new name of its unknown."""
    need_net(net)
    need_renaming(net, renaming)
    need_assignment(net, assignment)
    shares = {name: share for name, share in zip(renaming[1], assignment)}
    return tuple([shares[name] for name in range(net[1])])


def led_polynomial(net, renaming, polynomial):
    """POLYNOMIAL with each unknown under its new name."""
    need_net(net)
    need_renaming(net, renaming)
    need_asked(net, polynomial)
    return renamed(net[1], polynomial, renaming[1])
