"""Polynomials written in words and marks, and writings read as polynomials."""

from hiddenrates.errors import InvalidWriting
from hiddenrates.polynomials import need_many, need_polynomial, told_sum
from hiddenrates.ratios import UNIT, lowest
from hiddenrates.texts import fraction_word, number_from

WORD_SIGNS = "abcdefghijklmnopqrstuvwxyz0123456789"
MOST_FIGURES = 60
MOST_POWER = 40


def show_polynomial(many, one):
    """The writing of the polynomial ONE."""
    need_many(many)
    need_polynomial(many, one)
    if one == ():
        return "0"
    words = []
    for powers, fraction in one:
        words.append("-" if fraction[0] < 0 else "+")
        words.append(_term_text(powers, fraction))
    # Ahead of all, + is left out, and - stands without a blank behind it.
    head = "-" if words[0] == "-" else ""
    return head + " ".join(words[1:])


def _term_text(powers, fraction):
    """The writing of a term without its sign."""
    words = [_factor_text(index, power) for index, power in enumerate(powers) if power > 0]
    size = (abs(fraction[0]), fraction[1])
    if size != UNIT or words == []:
        words = [fraction_word(size)] + words
    return " ".join(words)


def _factor_text(index, power):
    """The writing of the unknown with INDEX, as often as POWER, above 0, tells."""
    return f"x{index}" if power == 1 else f"x{index}^{power}"


def read_polynomial(many, writing):
    """The polynomial in MANY unknowns that WRITING tells."""
    need_many(many)
    if type(writing) is not str:
        raise InvalidWriting(None)
    # The end stands among the parts, so that what ends too early is refused there.
    parts = _parts_of(writing) + [(len(writing), "")]
    terms = []
    at = 0
    while at == 0 or parts[at][1] != "":
        sign, begun = _sign_at(parts, at)
        (powers, above, below), at = _term_at(many, parts, begun)
        terms.append((powers, lowest(sign * above, below)))
    return told_sum(terms)


def _parts_of(writing):
    """The words, marks and other signs of WRITING, each behind the index of its first sign."""
    parts = []
    start = 0
    for index, sign in enumerate(writing):
        if sign not in WORD_SIGNS:
            if start < index:
                parts.append((start, writing[start:index]))
            if sign != " ":
                parts.append((index, sign))
            start = index + 1
    if start < len(writing):
        parts.append((start, writing[start:]))
    return parts


def _sign_at(parts, at):
    """1 or - 1 as the sign ahead of a term tells, and the index of the part behind it."""
    if parts[at][1] == "-":
        return (-1, at + 1)
    if parts[at][1] == "+" and at > 0:
        return (1, at + 1)
    # The first term alone may stand without a sign.
    if at > 0:
        raise InvalidWriting(parts[at][0])
    return (1, at)


def _term_at(many, parts, at):
    """The powers and both numbers of the fraction of a term, and the index of the part behind it."""
    above, below, behind = _fraction_at(parts, at)
    powers, end = _factors_at(many, parts, behind)
    if end == at:
        raise InvalidWriting(parts[at][0])
    return ((powers, above, below), end)


def _fraction_at(parts, at):
    """Both numbers of the fraction at AT, 1 over 1 if there is none, and the index of the part behind it."""
    above = _number_at(parts, at)
    if above is None:
        return (1, 1, at)
    if parts[at + 1][1] != "/":
        return (above, 1, at + 1)
    below = _number_at(parts, at + 2)
    if below is None or below == 0:
        raise InvalidWriting(parts[at + 2][0])
    return (above, below, at + 3)


def _factors_at(many, parts, at):
    """The powers of all factors from AT on, and the index of the part behind them."""
    unknowns = {f"x{index}": index for index in range(many)}
    powers = [0] * many
    while parts[at][1] in unknowns:
        unknown = unknowns[parts[at][1]]
        power, at = _power_at(parts, at + 1)
        powers[unknown] += power
    return (tuple(powers), at)


def _power_at(parts, at):
    """The power that AT tells behind an unknown, 1 if it tells none, and the index of the part behind it."""
    if parts[at][1] != "^":
        return (1, at)
    power = _number_at(parts, at + 1)
    if power is None or power > MOST_POWER:
        raise InvalidWriting(parts[at + 1][0])
    return (power, at + 2)


def _number_at(parts, at):
    """The number that the part at AT tells, None if it tells none or one of too many figures."""
    word = parts[at][1]
    return number_from(word) if len(word) <= MOST_FIGURES else None
