"""More tanks that are seen or filled: what nets show more, and the fewest tanks that are enough."""

from itertools import combinations

from hiddenrates.errors import InvalidChoice, InvalidKind
from hiddenrates.knowledge import knowledge
from hiddenrates.looks import need_asked
from hiddenrates.nets import need_net
from hiddenrates.ratios import is_whole

SEEN = "seen"
FILLED = "filled"


def shows_more(net, other):
    """Whether NET is OTHER, but for tanks that are filled or seen in NET alone."""
    need_net(net)
    need_net(other)
    if net[:3] != other[:3]:
        return False
    return all(tank in net[3] for tank in other[3]) and all(tank in net[4] for tank in other[4])


def wider(net, kind, choice):
    """NET with the tanks of CHOICE filled or seen, too, as KIND tells."""
    need_net(net)
    need_kind(kind)
    need_choice(net, kind, choice)
    many, unknowns, pipes, filled, seen = net
    if kind == SEEN:
        return (many, unknowns, pipes, filled, tuple(sorted(seen + choice)))
    return (many, unknowns, pipes, tuple(sorted(filled + choice)), seen)


def is_kind(value):
    """Whether VALUE, whatever it is, is a kind of tanks."""
    return type(value) is str and value in (SEEN, FILLED)


def need_kind(kind):
    """Refuse what is no kind of tanks."""
    if not is_kind(kind):
        raise InvalidKind(kind)


def is_choice(net, kind, value):
    """Whether VALUE, whatever it is, is an ascending tuple of tanks of NET that are not yet of this KIND."""
    if type(value) is not tuple or not all(is_whole(tank) for tank in value):
        return False
    return value in choices_of(net, kind, len(value))


def need_choice(net, kind, choice):
    """Refuse what is no choice of tanks of NET."""
    if not is_choice(net, kind, choice):
        raise InvalidChoice(choice)


def left_of(net, kind):
    """The tanks of NET that are not yet of this KIND, ascending."""
    tanks = net[4] if kind == SEEN else net[3]
    return [tank for tank in range(net[0]) if tank not in tanks]


def choices_of(net, kind, count):
    """All choices of COUNT tanks of NET, ascending."""
    tanks = left_of(net, kind)
    return [choice for choice in combinations(tanks, count)]


def lesser_choices(net, kind, count):
    """All choices of one tank less than COUNT, of all tanks that are left if these are less; none for 0."""
    if count == 0:
        return []
    return choices_of(net, kind, min(count - 1, len(left_of(net, kind))))


def fewest(net, polynomial, kind):
    """The first of the choices with the least tanks by which POLYNOMIAL is known; None if there is none."""
    need_net(net)
    need_asked(net, polynomial)
    need_kind(kind)
    for count in range(len(left_of(net, kind)) + 1):
        for choice in choices_of(net, kind, count):
            if knowledge(wider(net, kind, choice), polynomial)[0] == "known":
                return choice
    return None
