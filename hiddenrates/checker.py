"""The checker: whether a paper shows a claim, by multiplying out and nothing else."""

from hiddenrates.choices import is_choice, is_kind, lesser_choices, wider
from hiddenrates.looks import is_asked, is_look, look_polynomial, look_polynomials
from hiddenrates.nets import are_alike, is_assignment, is_fillings, is_net, look_in, seen_in
from hiddenrates.polynomials import all_slopes, is_polynomial, worth
from hiddenrates.ratios import is_within, reduced_rows
from hiddenrates.renamings import is_names, is_renaming
from hiddenrates.wholes import add_product, row_along, scale_of, slopes_along, whole_of, without_noughts

MOST_RANK = 4
MOST_CHOSEN = 4


def _fits_assignment(claim, value):
    """Whether VALUE may stand in CLAIM as an assignment."""
    return is_assignment(claim[1], value)


def _fits_polynomial(claim, value):
    """Whether VALUE may stand in CLAIM as a polynomial."""
    return is_asked(claim[1], value)


def _fits_fillings(claim, value):
    """Whether VALUE may stand in CLAIM as fillings."""
    return is_fillings(claim[1], value)


def _fits_rank(_, value):
    """Whether VALUE may stand in a claim as a rank."""
    return is_within(value, 0, MOST_RANK)


def _fits_count(_, value):
    """Whether VALUE may stand in a claim as how many tanks are needed."""
    return is_within(value, 0, MOST_CHOSEN)


def _fits_kind(_, value):
    """Whether VALUE may stand in a claim as a kind of tanks."""
    return is_kind(value)


def _fits_choice(claim, value):
    """Whether VALUE may stand in CLAIM, behind the kind, as a choice."""
    return is_choice(claim[1], claim[2], value)


def _fits_names(_, value):
    """Whether VALUE may stand in a claim as names of tanks or of unknowns, right or wrong."""
    return is_names(value)


def _is_nothing(paper):
    """Whether PAPER is the one for claims that can be looked through without one."""
    return type(paper) is tuple and len(paper) == 0


def _judge_alike(claim, paper):
    """Whether both assignments are alike."""
    _, net, one, other = claim
    return _is_nothing(paper) and are_alike(net, one, other)


def _judge_parted(claim, paper):
    """Whether PAPER is a look that is unlike by both assignments."""
    _, net, one, other = claim
    return is_look(net, paper) and look_in(net, one, paper) != look_in(net, other, paper)


def _judge_known(claim, paper):
    """Whether PAPER shows that the polynomial is known."""
    _, net, polynomial = claim
    return _shows(net, polynomial, paper)


def _judge_enough(claim, paper):
    """Whether PAPER shows that the polynomial is known with the choice, too."""
    _, net, kind, choice, polynomial = claim
    return _shows(wider(net, kind, choice), polynomial, paper)


def _shows(net, polynomial, paper):
    """Whether PAPER is (Q, POLYS) and Q times the slopes of POLYNOMIAL is the sum of the looks' times POLYS."""
    many = net[1]
    if type(paper) is not tuple or len(paper) != 2:
        return False
    ahead, parts = paper
    if not is_polynomial(many, ahead) or ahead == ():
        return False
    looks = look_polynomials(net)
    if not _are_polynomials(many, parts, len(looks)):
        return False
    # One number that all are taken times leaves what is nought as it is.
    factors = _whole_row((ahead,) + parts)
    rows = [slopes_along(many, kept) for kept in _whole_row((polynomial,) + looks)]
    return all(_adds_up(factors, [row[unknown] for row in rows]) for unknown in range(many))


def _are_polynomials(many, value, count):
    """Whether VALUE, whatever it is, is a tuple of COUNT polynomials in MANY unknowns."""
    return type(value) is tuple and len(value) == count and all(is_polynomial(many, one) for one in value)


def _adds_up(factors, slopes):
    """Whether the first one of SLOPES times its factor is the sum of the others times theirs."""
    kept = {}
    sign = 1
    for factor, one in zip(factors, slopes):
        add_product(kept, factor, one, sign)
        sign = -1
    return without_noughts(kept) == {}


def _judge_free(claim, paper):
    """Whether PAPER shows that the polynomial is free."""
    _, net, polynomial = claim
    return _frees(net, polynomial, paper)


def _frees(net, polynomial, field):
    """Whether FIELD is a field that changes no look of NET, but POLYNOMIAL."""
    return _is_still(net, field) and _changes(net[1], _whole_row(field), polynomial)


def _is_still(net, field):
    """Whether FIELD, whatever it is, is a field that changes no look of NET."""
    if not _are_polynomials(net[1], field, net[1]):
        return False
    row = _whole_row(field)
    return not any([_changes(net[1], row, one) for one in look_polynomials(net)])


def _whole_row(row):
    """The polynomials of ROW, taken times one number that makes all of them whole."""
    scale = scale_of(row)
    return [whole_of(one, scale) for one in row]


def _changes(many, row, one):
    """Whether the field that ROW is a multiple of changes the polynomial ONE."""
    return row_along(row, slopes_along(many, whole_of(one, scale_of((one,))))) != {}


def _judge_rank(claim, paper):
    """Whether PAPER holds as many looks and fields as the rank tells, none of which hang together."""
    _, net, rank = claim
    if type(paper) is not tuple or len(paper) != 3:
        return False
    looks, fields, point = paper
    if type(looks) is not tuple or len(looks) != rank or not all(is_look(net, look) for look in looks):
        return False
    if type(fields) is not tuple or len(fields) != net[1] - rank or not is_assignment(net, point):
        return False
    if not all(_is_still(net, field) for field in fields):
        return False
    slopes = [all_slopes(net[1], look_polynomial(net, look)) for look in looks]
    return _stand_alone(net[1], slopes, point) and _stand_alone(net[1], fields, point)


def _stand_alone(many, rows, point):
    """Whether no sum of the worths of ROWS at POINT, taken times numbers, is 0 but the one with 0 at each."""
    worths = [[worth(many, one, point) for one in row] for row in rows]
    return len(reduced_rows(worths, many)) == len(rows)


def _judge_needed(claim, paper):
    """Whether PAPER shows for all choices of one tank less that they are not enough."""
    _, net, kind, count, polynomial = claim
    choices = lesser_choices(net, kind, count)
    if type(paper) is not tuple or len(paper) != len(choices):
        return False
    return all([_refuses(net, kind, choice, polynomial, pair) for choice, pair in zip(choices, paper)])


def _refuses(net, kind, choice, polynomial, pair):
    """Whether PAIR is CHOICE and a field by which POLYNOMIAL is free with CHOICE, too."""
    if type(pair) is not tuple or len(pair) != 2 or not is_choice(net, kind, pair[0]) or pair[0] != choice:
        return False
    return _frees(wider(net, kind, choice), polynomial, pair[1])


def _judge_renaming(claim, paper):
    """Whether the names are a renaming."""
    _, net, tanks, names = claim
    return _is_nothing(paper) and is_renaming(net, (tanks, names))


def _judge_no_renaming(claim, paper):
    """Whether the names are no renaming."""
    _, net, tanks, names = claim
    return _is_nothing(paper) and not is_renaming(net, (tanks, names))


def _judge_runs_alike(claim, paper):
    """Whether the same is seen of the fillings by both assignments."""
    _, net, one, other, fillings = claim
    return _is_nothing(paper) and seen_in(net, one, fillings) == seen_in(net, other, fillings)


def _judge_runs_unlike(claim, paper):
    """Whether not the same is seen of the fillings by both assignments."""
    _, net, one, other, fillings = claim
    return _is_nothing(paper) and seen_in(net, one, fillings) != seen_in(net, other, fillings)


# What stands behind the word and the net.
FORMS = {
    "alike": ("assignment", "assignment"),
    "parted": ("assignment", "assignment"),
    "known": ("polynomial",),
    "free": ("polynomial",),
    "rank": ("rank",),
    "enough": ("kind", "choice", "polynomial"),
    "needed": ("kind", "count", "polynomial"),
    "renaming": ("names", "names"),
    "no renaming": ("names", "names"),
    "runs alike": ("assignment", "assignment", "fillings"),
    "runs unlike": ("assignment", "assignment", "fillings"),
}
FITTINGS = {
    "assignment": _fits_assignment,
    "polynomial": _fits_polynomial,
    "fillings": _fits_fillings,
    "rank": _fits_rank,
    "count": _fits_count,
    "kind": _fits_kind,
    "choice": _fits_choice,
    "names": _fits_names,
}
JUDGES = {
    "alike": _judge_alike,
    "parted": _judge_parted,
    "known": _judge_known,
    "free": _judge_free,
    "rank": _judge_rank,
    "enough": _judge_enough,
    "needed": _judge_needed,
    "renaming": _judge_renaming,
    "no renaming": _judge_no_renaming,
    "runs alike": _judge_runs_alike,
    "runs unlike": _judge_runs_unlike,
}


def _is_claim(value):
    """Whether VALUE, whatever it is, is a claim."""
    if type(value) is not tuple or len(value) < 2 or type(value[0]) is not str or value[0] not in FORMS:
        return False
    form = FORMS[value[0]]
    if len(value) != len(form) + 2 or not is_net(value[1]):
        return False
    return all(_fits(name, value, part) for name, part in zip(form, value[2:]))


def _fits(name, claim, part):
    """Whether PART may stand in CLAIM where the form tells NAME."""
    fits = FITTINGS[name]
    return fits(claim, part)


def accepts(claim, paper):
    """Whether CLAIM is a claim and PAPER one of its papers that are accepted, whatever both are."""
    if not _is_claim(claim):
        return False
    judge = JUDGES[claim[0]]
    return judge(claim, paper)
