"""What the console answers to lines that only ask, and how numbers and rows stand in its lines."""

from hiddenrates.errors import InvalidWriting
from hiddenrates.knowledge import columns_of, fields_of, knowledge, minor_of, taken_looks, unknowns_known
from hiddenrates.looks import is_asked, is_look, look_polynomial
from hiddenrates.nets import kept_sums, look_in, parting
from hiddenrates.polynomials import minus
from hiddenrates.ratios import is_told
from hiddenrates.renamings import renamings
from hiddenrates.series import course
from hiddenrates.texts import fraction_from, fraction_word, number_from, text_of
from hiddenrates.writings import read_polynomial, show_polynomial

MOST_FIGURES = 10
MOST_COURSE = 6


def number_in(word, least, most):
    """The number from LEAST up to MOST that WORD tells, None if it tells none."""
    if len(word) > MOST_FIGURES:
        return None
    told = number_from(word)
    return told if told is not None and least <= told <= most else None


def numbers_in(words, bounds):
    """The numbers that WORDS tell, each from 0 up to its bound; None if they tell anything else."""
    if len(words) != len(bounds):
        return None
    told = tuple([number_in(word, 0, most) for word, most in zip(words, bounds)])
    return None if None in told else told


def fraction_in(word):
    """The told fraction that WORD tells as it is written, None if it tells none."""
    # A sign and a mark stand beside two numbers at most.
    if len(word) > 2 * MOST_FIGURES + 2:
        return None
    fraction = fraction_from(word)
    if not is_told(fraction) or fraction_word(fraction) != word:
        return None
    return fraction


def row_text(row):
    """The fractions of ROW, a blank between two."""
    return " ".join([fraction_word(fraction) for fraction in row])


def rows_text(rows):
    """The text of ROWS that are told, a word if there are none."""
    return "\n".join(rows) if rows else "none"


def _answer_held(state):
    """What the tanks hold by the one and by the other assignment."""
    return rows_text([row_text(row) for row in state[3]])


def _answer_alike(state):
    """Whether both assignments are alike, or the look that parts them."""
    net, one, other, _, _ = state
    look = parting(net, one, other)
    if look is None:
        return "alike"
    power, tank, source = look
    mine, yours = fraction_word(look_in(net, one, look)), fraction_word(look_in(net, other, look))
    return f"apart at {power} {tank} {source}: {mine} and {yours}"


def _answer_look(state, words):
    """The writing of the polynomial of the look that WORDS tell; None if they tell none."""
    net = state[0]
    look = numbers_in(words, (2 * net[0] - 1, net[0] - 1, net[0] - 1))
    if not is_look(net, look):
        return None
    return show_polynomial(net[1], look_polynomial(net, look))


def _answer_kept(state):
    """The basis of the kept sums."""
    return rows_text([row_text(row) for row in kept_sums(state[0])])


def _answer_rank(state):
    """How many unknowns are known by looks, and which ones."""
    net = state[0]
    rank = len(taken_looks(net))
    known = "".join([f" x{unknown}" for unknown in unknowns_known(net)])
    return f"{rank} of {net[1]} known by looks; unknowns known:{known}"


def answer_ask(state, writing):
    """Whether the polynomial that WRITING tells is known or free."""
    net = state[0]
    try:
        polynomial = read_polynomial(net[1], writing)
    except InvalidWriting as refused:
        return f"not read at {refused.place}"
    if not is_asked(net, polynomial):
        return "too high"
    return knowledge(net, polynomial)[0]


def _answer_fields(state):
    """The fields along which no look changes, each behind its unknown."""
    net = state[0]
    fields = _fields_by_unknown(net)
    return rows_text([f"x{unknown}: " + _field_text(net[1], field) for unknown, field in fields.items()])


def _fields_by_unknown(net):
    """The fields of NET by their unknowns, turned so that the number ahead of D is above 0."""
    many, columns = net[1], columns_of(net)
    fields = fields_of(net)
    if minor_of(net)[0][1][0] < 0:
        fields = [tuple([minus(many, (), one) for one in field]) for field in fields]
    free = [unknown for unknown in range(many) if unknown not in columns]
    return {unknown: field for unknown, field in zip(free, fields)}


def _field_text(many, field):
    """The writings of the polynomials of FIELD."""
    return "; ".join([show_polynomial(many, one) for one in field])


def _answer_course(state, words):
    """The course of a field from the one assignment, as WORDS tell; None if they do not."""
    net, one, _, _, _ = state
    numbers = numbers_in(words, (net[1] - 1, MOST_COURSE))
    if numbers is None:
        return None
    unknown, degree = numbers
    fields = _fields_by_unknown(net)
    if unknown not in fields:
        return "no field"
    row = course(net[1], fields[unknown], one, degree)
    return rows_text([f"x{index}: " + row_text(series) for index, series in enumerate(row)])


def _answer_renamings(state):
    """All renamings, a row for each."""
    return rows_text([_renaming_text(tanks, names) for tanks, names in renamings(state[0])])


def _renaming_text(tanks, names):
    """The names of the tanks, and those of the unknowns."""
    return " ".join([str(tank) for tank in tanks] + ["|"] + [str(name) for name in names])


def _answer_show(state):
    """The text of the net."""
    return text_of(state[0])


# These have nothing behind them.
BARE_ASKS = {
    "held": _answer_held,
    "alike": _answer_alike,
    "kept": _answer_kept,
    "rank": _answer_rank,
    "fields": _answer_fields,
    "renamings": _answer_renamings,
    "show": _answer_show,
}
ASKS = {"look": _answer_look, "course": _answer_course}


def is_asking(word):
    """Whether lines that begin with WORD only ask, and have no writing behind it."""
    return word in BARE_ASKS or word in ASKS


def answer_to(state, words):
    """The answer to a line of WORDS that only asks, None if it is not understood."""
    if words[0] in ASKS:
        ask_about = ASKS[words[0]]
        return ask_about(state, words[1:])
    ask = BARE_ASKS[words[0]]
    return None if len(words) > 1 else ask(state)
