"""Nets: what is one, their tables, runs and looks, what parts assignments, and sums that are kept."""

from hiddenrates.errors import InvalidAssignment, InvalidFillings, InvalidNet, InvalidNumber
from hiddenrates.ratios import NOUGHT, UNIT, added, is_told, is_within, lessened, row_times, vanishing_rows

MOST_TANKS = 4
MOST_UNKNOWNS = 4
MOST_TOGETHER = 7
MOST_PIPES = 12
MOST_FILLINGS = 30
MOST_LOOKS = 20


def is_net(value):
    """Whether VALUE, whatever it is, is a net."""
    if type(value) is not tuple or len(value) != 5:
        return False
    many, unknowns, pipes, filled, seen = value
    if not is_within(many, 1, MOST_TANKS) or not is_within(unknowns, 0, MOST_UNKNOWNS):
        return False
    if many + unknowns > MOST_TOGETHER or not _are_pipes(pipes, many, unknowns):
        return False
    return _are_tanks(filled, many) and _are_tanks(seen, many)


def _are_pipes(pipes, many, unknowns):
    """Whether PIPES is a tuple of pipes that are unlike one another."""
    if type(pipes) is not tuple or len(pipes) > MOST_PIPES:
        return False
    if not all(_is_pipe(pipe, many, unknowns) for pipe in pipes):
        return False
    return all([pipe not in pipes[:index] for index, pipe in enumerate(pipes)])


def _is_pipe(pipe, many, unknowns):
    """Whether PIPE leads a share from a tank to another one or out."""
    if type(pipe) is not tuple or len(pipe) != 3:
        return False
    start, end, share = pipe
    if not is_within(start, 0, many - 1) or not _is_share(share, unknowns):
        return False
    return end is None or (is_within(end, 0, many - 1) and end != start)


def _is_share(share, unknowns):
    """Whether SHARE is an unknown or a told fraction."""
    if type(share) is not tuple or len(share) != 2:
        return False
    mark, unknown = share
    if type(mark) is str:
        return mark == "x" and is_within(unknown, 0, unknowns - 1)
    return is_told(share)


def _are_tanks(tanks, many):
    """Whether TANKS is an ascending tuple of tanks, one at least."""
    if type(tanks) is not tuple or not 1 <= len(tanks) <= many:
        return False
    if not all(is_within(tank, 0, many - 1) for tank in tanks):
        return False
    return all([one < two for one, two in zip(tanks, tanks[1:])])


def need_net(net):
    """Refuse what is no net."""
    if not is_net(net):
        raise InvalidNet(net)


def need_assignment(net, assignment):
    """Refuse what is no tuple of a told fraction for each unknown of NET."""
    if type(assignment) is not tuple or len(assignment) != net[1]:
        raise InvalidAssignment(None)
    for index, share in enumerate(assignment):
        if not is_told(share):
            raise InvalidAssignment(index)


def is_assignment(net, value):
    """Whether VALUE, whatever it is, is an assignment of NET."""
    return type(value) is tuple and len(value) == net[1] and all(is_told(share) for share in value)


def is_fillings(net, value):
    """Whether VALUE, whatever it is, is a tuple of a filling of NET for each beat, of up to 30 beats."""
    if type(value) is not tuple or len(value) > MOST_FILLINGS:
        return False
    return all(_is_filling(net, filling) for filling in value)


def need_fillings(net, fillings):
    """Refuse what is no tuple of a filling of NET for each beat, of up to 30 beats."""
    if type(fillings) is not tuple or len(fillings) > MOST_FILLINGS:
        raise InvalidFillings(None)
    for index, filling in enumerate(fillings):
        if not _is_filling(net, filling):
            raise InvalidFillings(index)


def _is_filling(net, filling):
    """Whether FILLING is a tuple of a told fraction for each filled tank of NET."""
    if type(filling) is not tuple or len(filling) != len(net[3]):
        return False
    return all(is_told(amount) for amount in filling)


def table_of(net, assignment):
    """The table of NET by ASSIGNMENT: what of 1 in tank J comes to tank I stands at row I, column J."""
    need_net(net)
    need_assignment(net, assignment)
    table = [list(row) for row in _unit_rows(net[0])]
    for start, end, share in net[2]:
        size = _share_by(share, assignment)
        table[start][start] = lessened(table[start][start], size)
        if end is not None:
            table[end][start] = added(table[end][start], size)
    return tuple([tuple(row) for row in table])


def _share_by(share, assignment):
    """The fraction that SHARE is by ASSIGNMENT."""
    if share[0] == "x":
        return assignment[share[1]]
    return share


def _unit_rows(many):
    """MANY rows of MANY fractions, 1 where row and column are the same, 0 elsewhere."""
    return [tuple([UNIT if row == column else NOUGHT for column in range(many)]) for row in range(many)]


def sent(table, held):
    """What the tanks hold after all of them have sent what they HELD."""
    return tuple([row_times(row, held) for row in table])


def filled_up(net, held, filling):
    """What the tanks of NET hold after FILLING has been added to what they HELD."""
    amounts = list(held)
    for tank, amount in zip(net[3], filling):
        amounts[tank] = added(amounts[tank], amount)
    return tuple(amounts)


def seen_of(net, held):
    """What is seen of NET while its tanks hold HELD."""
    return tuple([held[tank] for tank in net[4]])


def seen_in(net, assignment, fillings):
    """What is seen of NET by ASSIGNMENT at each beat of FILLINGS and at the one behind them."""
    need_net(net)
    need_assignment(net, assignment)
    need_fillings(net, fillings)
    table = table_of(net, assignment)
    held = (NOUGHT,) * net[0]
    rows = []
    for filling in fillings:
        rows.append(seen_of(net, held))
        held = filled_up(net, sent(table, held), filling)
    return tuple(rows) + (seen_of(net, held),)


def looks_in(net, assignment, many):
    """The looks of NET by ASSIGNMENT for each K below MANY: a row for each seen tank, in it each filled one."""
    need_net(net)
    need_assignment(net, assignment)
    if not is_within(many, 0, MOST_LOOKS):
        raise InvalidNumber(many)
    table = table_of(net, assignment)
    unit = _unit_rows(net[0])
    columns = [unit[tank] for tank in net[3]]
    looks = []
    for _ in range(many):
        looks.append(tuple([tuple([column[tank] for column in columns]) for tank in net[4]]))
        columns = [sent(table, column) for column in columns]
    return tuple(looks)


def look_in(net, assignment, look):
    """The one LOOK (K, S, F) of NET by ASSIGNMENT."""
    power, tank, source = look
    return looks_in(net, assignment, power + 1)[power][net[4].index(tank)][net[3].index(source)]


def are_alike(net, one, other):
    """Whether the same is seen of all fillings of NET by ONE and by OTHER."""
    return parting(net, one, other) is None


def parting(net, one, other):
    """The first (K, S, F) whose looks by ONE and by OTHER are unlike; None if the two are alike."""
    need_net(net)
    need_assignment(net, one)
    need_assignment(net, other)
    # Looks that are equal for all K below twice the tanks are equal for ever.
    many = 2 * net[0]
    mine, yours = looks_in(net, one, many), looks_in(net, other, many)
    for power in range(many):
        for row, seen in enumerate(net[4]):
            for column, filled in enumerate(net[3]):
                if mine[power][row][column] != yours[power][row][column]:
                    return (power, seen, filled)
    return None


def kept_sums(net):
    """The basis of the rows W such that W times what the tanks of NET hold stays, by all assignments."""
    need_net(net)
    return tuple(vanishing_rows(_keeping_rows(net), net[0]))


def _keeping_rows(net):
    """The rows whose products with W are 0 if W is kept: for each tank one by unknown, and a told one."""
    rows = {}
    for start, end, share in net[2]:
        key, weight = (start, None), share
        # An unknown may be anything, so what it sends has to be kept by itself.
        if share[0] == "x":
            key, weight = (start, share[1]), UNIT
        row = rows.setdefault(key, [NOUGHT] * net[0])
        row[start] = lessened(row[start], weight)
        if end is not None:
            row[end] = added(row[end], weight)
    return list(rows.values())
