"""Nets written as texts, and texts read as nets."""

from hiddenrates.errors import InvalidNet, InvalidText
from hiddenrates.nets import is_net, need_net

FIGURES = "0123456789"


def text_of(net):
    """The text of NET: a row for its tanks, its unknowns, each pipe, the filled and the seen tanks."""
    need_net(net)
    many, unknowns, pipes, filled, seen = net
    rows = [f"tanks {many}", f"unknowns {unknowns}"]
    rows.extend([_pipe_row(pipe) for pipe in pipes])
    rows.append(_tanks_row("filled", filled))
    rows.append(_tanks_row("seen", seen))
    return "\n".join(rows)


def _pipe_row(pipe):
    """The row of PIPE."""
    start, end, share = pipe
    goal = "out" if end is None else str(end)
    return f"pipe {start} {goal} {_share_word(share)}"


def _share_word(share):
    """The word of an unknown or of a told fraction."""
    if share[0] == "x":
        return f"x{share[1]}"
    return fraction_word(share)


def fraction_word(fraction):
    """The word of FRACTION: the number alone if it is whole."""
    if fraction[1] == 1:
        return str(fraction[0])
    return f"{fraction[0]}/{fraction[1]}"


def _tanks_row(name, tanks):
    """The row that tells TANKS behind NAME."""
    return " ".join([name] + [str(tank) for tank in tanks])


def net_of(text):
    """The net that TEXT tells."""
    if type(text) is not str:
        raise InvalidText(None)
    rows = [words_of(row) for row in text.split("\n")]
    many = _count_at(rows, 0, "tanks")
    unknowns = _count_at(rows, 1, "unknowns")
    pipes = _pipes_from(rows, 2)
    behind = 2 + len(pipes)
    filled = _numbers_at(rows, behind, "filled")
    seen = _numbers_at(rows, behind + 1, "seen")
    if len(rows) > behind + 2:
        raise InvalidText(behind + 2)
    net = (many, unknowns, pipes, filled, seen)
    if not is_net(net):
        raise InvalidNet(net)
    return net


def words_of(row):
    """The words of ROW, parted by blanks alone."""
    return [word for word in row.split(" ") if word != ""]


def _numbers_at(rows, index, name):
    """The numbers behind NAME in the row at INDEX, which is refused if it tells anything else."""
    if index >= len(rows) or rows[index][:1] != [name]:
        raise InvalidText(index)
    numbers = tuple([number_from(word) for word in rows[index][1:]])
    if None in numbers:
        raise InvalidText(index)
    return numbers


def _count_at(rows, index, name):
    """The one number behind NAME in the row at INDEX."""
    numbers = _numbers_at(rows, index, name)
    if len(numbers) != 1:
        raise InvalidText(index)
    return numbers[0]


def _pipes_from(rows, index):
    """The pipes that the rows from INDEX on tell, up to the first row that is none of a pipe."""
    pipes = []
    for row in rows[index:]:
        if row[:1] != ["pipe"]:
            break
        pipe = _pipe_from(row)
        if pipe is None:
            raise InvalidText(index + len(pipes))
        pipes.append(pipe)
    return tuple(pipes)


def _pipe_from(words):
    """The pipe that a row of WORDS tells, None if it tells none."""
    if len(words) != 4:
        return None
    start, end, share = number_from(words[1]), number_from(words[2]), _share_from(words[3])
    # A pipe that leads out has None as its end, and is right.
    if start is None or share is None or (end is None and words[2] != "out"):
        return None
    return (start, end, share)


def _share_from(word):
    """The unknown or the fraction that WORD tells, None if it tells none."""
    if word[:1] != "x":
        return fraction_from(word)
    unknown = number_from(word[1:])
    return None if unknown is None else ("x", unknown)


def fraction_from(word):
    """The pair (N, M) that WORD tells as N or N/M, in lowest terms or not; None if it tells none."""
    head, slash, tail = word.partition("/")
    above = _signed_from(head)
    below = number_from(tail) if slash == "/" else 1
    if above is None or below is None:
        return None
    return (above, below)


def _signed_from(word):
    """The whole number that WORD tells, - ahead of it if it is below 0; None if it tells none."""
    if word[:1] != "-":
        return number_from(word)
    size = number_from(word[1:])
    # There is no number below 0 that is written with a 0 alone.
    return None if size is None or size == 0 else -size


def number_from(word):
    """The whole number that WORD tells without noughts ahead, None if it tells none."""
    if word == "" or not all(sign in FIGURES for sign in word):
        return None
    if word[0] == "0" and word != "0":
        return None
    return int(word)
