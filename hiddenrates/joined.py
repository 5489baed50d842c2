"""Nets put together: side by side, and one led on into the other."""

from hiddenrates.errors import InvalidNumber, TooMany
from hiddenrates.nets import MOST_PIPES, MOST_TANKS, MOST_TOGETHER, MOST_UNKNOWNS, need_net
from hiddenrates.ratios import NOUGHT, is_within


def side_by_side(net, other):
    """NET and OTHER as one net, the tanks and unknowns of OTHER behind those of NET."""
    need_net(net)
    need_net(other)
    many, unknowns, pipes, filled, seen = net
    both = (many + other[0], unknowns + other[1], len(pipes) + len(other[2]))
    _need_room(both[0], both[1], both[2])
    return (
        both[0],
        both[1],
        pipes + tuple([_moved_pipe(pipe, many, unknowns) for pipe in other[2]]),
        filled + _moved_tanks(other[3], many),
        seen + _moved_tanks(other[4], many),
    )


def _need_room(tanks, unknowns, pipes):
    """Refuse more of anything than a net may have, by how many there would be."""
    bounds = (
        (tanks, MOST_TANKS),
        (unknowns, MOST_UNKNOWNS),
        (tanks + unknowns, MOST_TOGETHER),
        (pipes, MOST_PIPES),
    )
    for count, most in bounds:
        if count > most:
            raise TooMany(count)


def _moved_pipe(pipe, many, unknowns):
    """PIPE with its tanks moved on by MANY, and its unknown by UNKNOWNS."""
    start, end, share = pipe
    if share[0] == "x":
        share = ("x", share[1] + unknowns)
    return (start + many, None if end is None else end + many, share)


def _moved_tanks(tanks, many):
    """TANKS, each moved on by MANY."""
    return tuple([tank + many for tank in tanks])


def led_on(net, pipe, other, tank):
    """NET and OTHER as one net in which the pipe with the index PIPE, which went out of NET, leads to TANK of OTHER."""
    need_net(net)
    _need_outlet(net, pipe)
    need_net(other)
    if not is_within(tank, 0, other[0] - 1):
        raise InvalidNumber(tank)
    many, unknowns, pipes, _, seen = side_by_side(net, other)
    start, _, share = pipes[pipe]
    led = (start, net[0] + tank, share)
    return (many, unknowns, pipes[:pipe] + (led,) + pipes[pipe + 1:], net[3], seen)


def _need_outlet(net, pipe):
    """Refuse what is no index of a pipe of NET that goes out with a told share other than 0."""
    if not is_within(pipe, 0, len(net[2]) - 1):
        raise InvalidNumber(pipe)
    _, end, share = net[2][pipe]
    if end is not None or share[0] == "x" or share == NOUGHT:
        raise InvalidNumber(pipe)
