"""The console: lines that tell a net and two assignments, run both, and ask what is known."""

from hiddenrates.answers import answer_ask, answer_to, fraction_in, is_asking, number_in, row_text, rows_text
from hiddenrates.errors import InvalidLines, InvalidNet, InvalidText, TooMany
from hiddenrates.nets import seen_of, sent, table_of
from hiddenrates.ratios import NOUGHT, added
from hiddenrates.renamings import led, renamings
from hiddenrates.texts import net_of, words_of

MOST_EARLIER = 20
MOST_LINES = 60
MOST_BEATS = 60
MOST_AT_ONCE = 30
NOT_UNDERSTOOD = "not understood"
# No net, no assignments, nothing held, no beats.
FRESH = (None, (), (), (), 0)


def fresh_console():
    """The console without a net and without earlier states."""
    return (FRESH, ())


def _begun(net, one, other):
    """The state of NET with both assignments, in which nothing is held yet."""
    nothing = (NOUGHT,) * net[0]
    return (net, one, other, (nothing, nothing), 0)


def _read_net(state, writing):
    """The net that WRITING tells, with noughts for all its unknowns."""
    try:
        net = net_of(writing.replace(";", "\n"))
    except InvalidText as refused:
        return (state, f"not read at {refused.index}")
    except InvalidNet:
        return (state, "no net")
    shares = (NOUGHT,) * net[1]
    return (_begun(net, shares, shares), f"{net[0]} tanks, {net[1]} unknowns")


def _ask(state, writing):
    """What is asked of the polynomial that WRITING tells; nothing changes."""
    return (state, answer_ask(state, writing))


def _tell_one(state, words):
    """A share of the one assignment."""
    net, one, other, _, _ = state
    changed = _with_share(one, words)
    return None if changed is None else (_begun(net, changed, other), "begun")


def _tell_other(state, words):
    """A share of the other assignment."""
    net, one, other, _, _ = state
    changed = _with_share(other, words)
    return None if changed is None else (_begun(net, one, changed), "begun")


def _with_share(assignment, words):
    """ASSIGNMENT with the share of the unknown that WORDS tell; None if they do not."""
    if len(words) != 2:
        return None
    unknown, share = number_in(words[0], 0, len(assignment) - 1), fraction_in(words[1])
    if unknown is None or share is None:
        return None
    return assignment[:unknown] + (share,) + assignment[unknown + 1:]


def _lead(state, words):
    """What a renaming leads the one assignment to, as the other one."""
    net, one, _, _, _ = state
    told = renamings(net)
    index = number_in(words[0], 0, len(told) - 1) if len(words) == 1 else None
    if index is None:
        return None
    return (_begun(net, one, led(net, told[index], one)), "begun")


def _fill(state, words):
    """A filling of one tank, by both assignments."""
    net, one, other, held, beats = state
    if len(words) != 2:
        return None
    tank, amount = number_in(words[0], 0, net[0] - 1), fraction_in(words[1])
    if tank is None or amount is None:
        return None
    if tank not in net[3]:
        return (state, "not to be filled")
    return ((net, one, other, tuple([_with_amount(row, tank, amount) for row in held]), beats), "filled")


def _with_amount(row, tank, amount):
    """What the tanks hold in ROW, AMOUNT added at TANK."""
    return row[:tank] + (added(row[tank], amount),) + row[tank + 1:]


def _go(state, words):
    """Some beats by both assignments, and what is seen at each of them."""
    net, one, other, (mine, yours), beats = state
    count = number_in(words[0], 1, MOST_AT_ONCE) if len(words) == 1 else None
    if count is None:
        return None
    if beats + count > MOST_BEATS:
        return (state, "too long")
    table, beside = table_of(net, one), table_of(net, other)
    rows = []
    for _ in range(count):
        rows.append(row_text(seen_of(net, mine)) + " | " + row_text(seen_of(net, yours)))
        mine, yours = sent(table, mine), sent(beside, yours)
    return ((net, one, other, (mine, yours), beats + count), rows_text(rows))


def _renew(_, words):
    """The state of the fresh console."""
    return None if words else (FRESH, "new")


# These take all that stands behind the first blank.
WRITTEN = {"net": _read_net, "ask": _ask}
CHANGES = {"one": _tell_one, "other": _tell_other, "led": _lead, "fill": _fill, "go": _go, "new": _renew}
WITHOUT_NET = ("net", "new", "back")


def _is_word(word):
    """Whether a line may begin with WORD."""
    return word == "back" or word in WRITTEN or word in CHANGES or is_asking(word)


def said(console, line):
    """The console behind LINE, and the answer."""
    if type(line) is not str:
        raise InvalidLines(None)
    state, earlier = console
    words = words_of(line)
    if words == [] or not _is_word(words[0]):
        return (console, NOT_UNDERSTOOD)
    if state[0] is None and words[0] not in WITHOUT_NET:
        return (console, "no net yet")
    if words[0] == "back":
        return _back(console, words)
    told = _answered(state, words, line)
    if told is None:
        return (console, NOT_UNDERSTOOD)
    reached, answer = told
    if reached == state:
        return (console, answer)
    return ((reached, (earlier + (state,))[-MOST_EARLIER:]), answer)


def _back(console, words):
    """The console with the last of its earlier states, and the answer."""
    _, earlier = console
    if len(words) > 1:
        return (console, NOT_UNDERSTOOD)
    if earlier == ():
        return (console, "nothing there")
    return ((earlier[-1], earlier[:-1]), "back")


def _answered(state, words, line):
    """The state that LINE leads to and the answer, None if it is not understood."""
    try:
        return _led_to(state, words, line)
    except TooMany as above:
        return (state, f"too many: {above.given}")


def _led_to(state, words, line):
    """The state that LINE leads to and the answer, None if it is not understood, where nothing is too many."""
    word = words[0]
    if word in WRITTEN:
        written = WRITTEN[word]
        writing = _writing_of(line)
        return None if writing is None else written(state, writing)
    if word in CHANGES:
        change = CHANGES[word]
        return change(state, words[1:])
    answer = answer_to(state, words)
    return None if answer is None else (state, answer)


def _writing_of(line):
    """All that stands behind the first blank behind the first word of LINE, None if there is no such blank."""
    _, blank, writing = line.lstrip(" ").partition(" ")
    return writing if blank == " " else None


def told_all(console, lines):
    """The console behind all LINES, and the tuple of the answers."""
    if type(lines) is not tuple or len(lines) > MOST_LINES:
        raise InvalidLines(None)
    for index, line in enumerate(lines):
        if type(line) is not str:
            raise InvalidLines(index)
    answers = []
    for line in lines:
        console, answer = said(console, line)
        answers.append(answer)
    return (console, tuple(answers))
