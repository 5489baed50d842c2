"""Point 30, with 4 and 6: which papers the checker accepts for which claims."""

import functools
import itertools
import random
import unittest

from generic import APART, ASKED, CUP, EIGHT, FOURTEEN, FULL, GLASS, LOST, MUG, NINE, THIRTEEN, TWELVE, TWINS, UNKNOWING
from generic import by_powers, slopes_by, some_nets
from hiddenrates.certificates import certify_alike, certify_enough, certify_known, certify_needed, certify_rank
from hiddenrates.certificates import certify_renaming, certify_runs
from hiddenrates.checker import accepts
from hiddenrates.choices import wider
from hiddenrates.errors import TooMany
from hiddenrates.knowledge import fields_of, knowledge
from hiddenrates.looks import looks_of
from hiddenrates.nets import looks_in, seen_in
from hiddenrates.polynomials import is_polynomial, minus, number, plus, times, unknown_of
from hiddenrates.renamings import renamings
from samples import BARE, CHAIN, HALF, NIL, ONE, PAIR, RING, THINGS, THIRD, Prickly, Told, nested, pair
from terms import X, Y, as_terms, power, some_fraction, some_polynomial, with_terms

SWAP = ((0, 2, 1), (1, 0))
SHARES, OTHERS = (HALF, THIRD), (HALF, HALF)
FIELD = (number(2, ONE), number(2, (-1, 1)))
NETS = ASKED + tuple(some_nets(121, 25))


def some_shares(source, net):
    return tuple(pair(some_fraction(source)) for _ in range(net[1]))


def certificates_of(source, net):
    """Some claims of the net that are so, with their papers."""
    one, other = some_shares(source, net), some_shares(source, net)
    asked = [unknown_of(net[1], unknown) for unknown in range(net[1])] + [some_polynomial(source, net[1], 2)]
    fillings = tuple(tuple(pair(some_fraction(source)) for _ in net[3]) for _ in range(4))
    yield certify_alike(net, one, other)
    yield certify_alike(net, one, one)
    yield certify_runs(net, one, other, fillings)
    yield certify_runs(net, one, one, fillings)
    yield certify_rank(net)
    yield certify_renaming(net, tuple(range(net[0])), tuple(range(net[1])))
    yield certify_renaming(net, tuple(reversed(range(net[0]))), tuple(reversed(range(net[1]))))
    for polynomial in asked:
        yield certify_known(net, polynomial)
        for kind in ("seen", "filled"):
            left = [tank for tank in range(net[0]) if tank not in net[4 if kind == "seen" else 3]]
            yield certify_enough(net, kind, tuple(left[:1]), polynomial)
            yield certify_needed(net, kind, polynomial)


@functools.cache
def all_certificates(nets=NETS):
    source = random.Random(122)
    return [each for net in nets for each in certificates_of(source, net)]


def spoiled_kinds(value):
    """The value with one thing in it that is of another kind, or with one thing more that is of no kind there."""
    if type(value) is tuple:
        yield list(value)
        yield value + (None,)
        for index, part in enumerate(value):
            for other in spoiled_kinds(part):
                yield value[:index] + (other,) + value[index + 1:]
    elif type(value) is int:
        yield str(value)
        yield (value,)
        if value in (0, 1):
            yield bool(value)
    else:
        yield True
        yield (value,)


def scaled(many, factor, row):
    return tuple(times(many, factor, one) for one in row)


class Examples(Told):
    def test_as_they_stand(self):
        x, y = unknown_of(2, 0), unknown_of(2, 1)
        pair = (2, 2, ((0, 1, ("x", 0)), (1, 0, ("x", 1)), (1, None, (1, 2))), (0,), (0,))
        fork = (2, 2, ((0, 1, ("x", 0)), (0, None, ("x", 1))), (0,), (0,))
        twins = TWINS
        unit, back = number(2, (1, 1)), number(2, (-1, 1))
        taken = plus(2, times(2, number(2, (2, 1)), minus(2, x, unit)), y)
        self.assertEqual(
            [
                accepts(("known", pair, y), (x, ((), taken, unit, ()))),
                accepts(("known", pair, y), (x, ((), (), unit, ()))),
                accepts(("free", pair, y), (unit, back)),
            ],
            [True, False, False],
        )
        self.assertEqual(
            [
                accepts(("free", fork, x), (unit, back)),
                accepts(("free", fork, plus(2, x, y)), (unit, back)),
                accepts(("rank", fork, 1), (((1, 0, 0),), ((unit, back),), ((0, 1), (0, 1)))),
                accepts(("needed", fork, "seen", 1, x), (((), (unit, back)),)),
            ],
            [True, False, True, True],
        )
        self.assertEqual(
            [
                accepts(("alike", twins, ((1, 3), (1, 5)), ((1, 5), (1, 3))), ()),
                accepts(("parted", pair, ((1, 2), (1, 3)), ((1, 2), (1, 2))), (2, 0, 0)),
                accepts(("parted", pair, ((1, 2), (1, 3)), ((1, 2), (1, 2))), (1, 0, 0)),
            ],
            [True, True, False],
        )


class Judged(Told):
    def yes(self, claim, *papers):
        for paper in papers:
            self.assertIs(accepts(claim, paper), True, (claim, paper))

    def no(self, claim, *papers):
        for paper in papers:
            self.assertIs(accepts(claim, paper), False, (claim, paper))


class Accepts(Judged):
    def test_each_claim_with_a_paper(self):
        words = {}
        for claim, paper in all_certificates():
            self.yes(claim, paper)
            words[claim[0]] = words.get(claim[0], 0) + 1
        self.assertEqual(
            sorted(words),
            [
                "alike",
                "enough",
                "free",
                "known",
                "needed",
                "no renaming",
                "parted",
                "rank",
                "renaming",
                "runs alike",
                "runs unlike",
            ],
        )

    def test_things_of_any_kind(self):
        right = [(claim, paper) for claim, paper in all_certificates((MUG, PAIR))]
        for thing in THINGS:
            self.no(thing, thing, (), None)
            for claim, paper in right:
                self.no(claim, thing)
                self.no(thing, paper)
                self.no((claim[0], thing), paper)
                self.no((thing,) + claim[1:], paper)
        for value in ((), (Prickly(),) * 4, ("alike",), ("alike", PAIR), ("known", Prickly(), X), nested(19, "alike")):
            self.no(value, (), None, (), Prickly())

    def test_papers_of_other_kinds(self):
        for claim, paper in all_certificates((MUG, PAIR, CHAIN, TWINS, GLASS, BARE, APART)):
            for other in spoiled_kinds(paper):
                self.no(claim, other)

    def test_claims_that_are_none(self):
        for claim, paper in all_certificates((MUG, PAIR, TWINS, RING)):
            for other in spoiled_kinds(claim):
                self.no(other, paper)

    def test_one_less_and_one_more(self):
        for claim, paper in all_certificates((MUG, PAIR, TWINS, BARE, LOST)):
            for index in range(len(claim)):
                self.no(claim[:index] + claim[index + 1:], paper)
                self.no(claim[:index] + (claim[index],) + claim[index:], paper)
            self.no(claim + ((),), paper)
            if claim[0] != "needed" or paper:
                for other in (paper[:-1], paper[1:], paper + paper[-1:], paper + ((),), (paper,)):
                    if other != paper:
                        self.no(claim, other)

    def test_words(self):
        for word in ("", "Alike", "alike ", "run alike", "runs  alike", "norenaming", b"alike", ("alike",), 0, None):
            self.no((word, PAIR, SHARES, SHARES), ())
            self.no((word, TWINS) + SWAP, ())
            self.no((word, PAIR, Y), certify_known(PAIR, Y)[1])

    def test_of_claims_that_exclude_one_another_never_both(self):
        others = {"known": "free", "free": "known", "alike": "parted", "parted": "alike", "renaming": "no renaming"}
        others.update({"no renaming": "renaming", "runs alike": "runs unlike", "runs unlike": "runs alike"})
        papers = {}
        told = [(claim, paper) for claim, paper in all_certificates(NETS[::3])]
        for claim, paper in told:
            papers.setdefault(claim[1][:2], []).append(paper)
        for claim, paper in told:
            if claim[0] in others:
                other = (others[claim[0]],) + claim[1:]
                self.no(other, paper, *papers[claim[1][:2]])
                self.no(other, *looks_of(claim[1]))
                self.no(other, *fields_of(claim[1]))
            if claim[0] == "enough":
                net = wider(*claim[1:4])
                self.no(("free", net, claim[4]), *papers[net[:2]])
                self.no(("needed",) + claim[1:3] + (len(claim[3]) + 1, claim[4]), *papers[net[:2]])
            if claim[0] == "rank":
                for rank in range(5):
                    if rank != claim[2]:
                        self.no(("rank", claim[1], rank), *papers[claim[1][:2]])


class Assignments(Judged):
    def test_alike(self):
        self.yes(("alike", TWINS, (THIRD, HALF), (HALF, THIRD)), ())
        self.yes(("alike", CHAIN, (THIRD, HALF), (HALF, THIRD)), ())
        self.no(("alike", PAIR, (THIRD, HALF), (HALF, THIRD)), ())
        for paper in (None, [], ((),), (0, 0, 0), "", 0, False, {}, Prickly()):
            self.no(("alike", TWINS, (THIRD, HALF), (HALF, THIRD)), paper)

    def test_parted_by_each_look_that_is_unlike(self):
        source = random.Random(128)
        for net in NETS:
            one, other = some_shares(source, net), some_shares(source, net)
            mine, yours = looks_in(net, one, 2 * net[0]), looks_in(net, other, 2 * net[0])
            for steps, tank, filled in itertools.product(range(2 * net[0] + 2), range(net[0]), range(net[0])):
                right = steps < 2 * net[0] and tank in net[4] and filled in net[3]
                if right:
                    row, column = net[4].index(tank), net[3].index(filled)
                    right = mine[steps][row][column] != yours[steps][row][column]
                self.assertIs(accepts(("parted", net, one, other), (steps, tank, filled)), right)

    def test_wrong_assignments(self):
        more = ((HALF, (2, 4)), ((1000, 1), HALF), (HALF, True))
        for wrong in (None, [HALF, THIRD], (HALF,), (HALF, THIRD, ONE)) + more:
            for word, paper in (("alike", ()), ("parted", (2, 0, 0)), ("parted", (1, 0, 0))):
                self.no((word, PAIR, wrong, wrong), paper)
                self.no((word, PAIR, SHARES, wrong), paper)
                self.no((word, PAIR, wrong, SHARES), paper)
        self.no(("alike", (1, 0, (), (0,), ()), (), ()), ())
        self.yes(("alike", BARE, (), ()), ())

    def test_runs(self):
        one, two = (HALF, THIRD), (HALF, HALF)
        fillings = ((ONE,), (NIL,), (NIL,))
        self.assertNotEqual(seen_in(PAIR, one, fillings), seen_in(PAIR, two, fillings))
        self.yes(("runs unlike", PAIR, one, two, fillings), ())
        self.no(("runs alike", PAIR, one, two, fillings), ())
        # Two beats are too few to tell them apart.
        self.yes(("runs alike", PAIR, one, two, fillings[:2]), ())
        self.no(("runs unlike", PAIR, one, two, fillings[:2]), ())
        self.yes(("runs alike", PAIR, one, two, ()), ())
        self.yes(("runs unlike", PAIR, one, two, fillings * 10), ())
        self.no(("runs unlike", PAIR, one, two, fillings * 10 + fillings[:1]), ())
        more = (((),), ([ONE],), (((2, 2),),), ((True,),), (((1000, 1),),))
        for wrong in (None, [(ONE,)], (ONE,), ((ONE, ONE),), "x") + more:
            self.no(("runs alike", PAIR, one, one, wrong), ())
            self.no(("runs unlike", PAIR, one, two, wrong), ())
        for paper in (None, [], (0,), (2, 0, 0), False):
            self.no(("runs unlike", PAIR, one, two, fillings), paper)
            self.no(("runs alike", PAIR, one, one, fillings), paper)


class KnownAndFree(Judged):
    def test_papers_taken_times_a_polynomial(self):
        source = random.Random(129)
        for claim, paper in all_certificates():
            many = claim[1][1]
            factor = some_polynomial(source, many, 2)
            if factor == ():
                continue
            if claim[0] == "known" or claim[0] == "enough":
                self.yes(claim, (times(many, factor, paper[0]), scaled(many, factor, paper[1])))
                self.no(claim, ((), scaled(many, (), paper[1])), ((), paper[1]))
            if claim[0] == "free":
                self.yes(claim, scaled(many, factor, paper))
                self.no(claim, scaled(many, (), paper))

    def test_one_polynomial_of_a_paper_changed(self):
        for claim, paper in all_certificates(NETS[::3]):
            if claim[0] == "known":
                net, many = claim[1], claim[1][1]
                slopes = knowledge_rows(net)
                ahead, parts = paper
                for index, (part, row) in enumerate(zip(parts, slopes)):
                    changed = parts[:index] + (plus(many, part, number(many, ONE)),) + parts[index + 1:]
                    # Only looks whose slopes are all nought may stand with any polynomial.
                    self.assertIs(accepts(claim, (ahead, changed)), not any(row))
                moved = plus(many, ahead, number(many, HALF))
                still = not any(unknowns_in(many, claim[2]))
                self.assertIs(accepts(claim, (moved, parts)), still and moved != ())

    def test_other_papers_for_the_same(self):
        # What is taken times one look's slopes is taken away again by another one's.
        unit, back = number(2, ONE), number(2, (-1, 1))
        both = plus(2, X, Y)
        self.yes(("known", MUG, both), (unit, ((), back, (), ())), (back, (power(3, 1), unit, (), ())))
        twice = plus(2, times(2, number(2, (2, 1)), both), number(2, (-2, 1)))
        # The slopes of the look at 2 are 2 x0 + 2 x1 - 2, both.
        self.yes(("known", MUG, both), (twice, ((), (), unit, ())))
        self.yes(("known", MUG, both), (plus(2, twice, unit), ((), back, unit, ())))
        self.no(("known", MUG, both), (twice, ((), back, unit, ())), (plus(2, twice, unit), ((), (), unit, ())))
        self.no(("known", MUG, X), (unit, ((), back, (), ())), (unit, ((), (), (), ())), (twice, ((), (), unit, ())))
        self.yes(("known", MUG, ()), (unit, ((),) * 4), (X, ((),) * 4), (Y, (power(2, 2), (), (), ())))
        self.yes(("known", MUG, number(2, HALF)), (unit, ((),) * 4))

    def test_great_powers(self):
        unit, back = number(2, ONE), number(2, (-1, 1))
        both = plus(2, X, Y)
        for powers in ((40, 0), (0, 40), (20, 20), (41, 0), (21, 20)):
            high, low = (((powers, ONE)),), ((powers, (-1, 1)),)
            high = ((powers, ONE),)
            told = sum(powers) <= 40
            self.assertIs(is_polynomial(2, high), told)
            self.assertIs(accepts(("known", MUG, both), (high, ((), low, (), ()))), told)
            self.assertIs(accepts(("free", MUG, X), (high, low)), told)
            # Multiplied out the degree may be above 40, but all of it falls away.
            self.assertIs(accepts(("known", MUG, power(2, 2)), (high, ((), low, (), ()))), False)
        cube = ((3, 0), (2, 1), (1, 2), (0, 3))
        third = tuple((powers, factor) for powers, factor in zip(cube, (ONE, (3, 1), (3, 1), ONE)))
        slope = (((2, 0), (3, 1)), ((1, 1), (6, 1)), ((0, 2), (3, 1)))
        high, low = power(40, 0), times(2, power(38, 0), times(2, number(2, (-1, 1)), slope))
        self.yes(("known", MUG, third), (power(38, 0), ((), low, (), ())))
        self.no(("known", MUG, third), (high, ((), low, (), ())))
        great = with_terms(2, 600)
        self.yes(("free", MUG, X), (great, minus(2, (), great)))
        self.yes(("known", MUG, both), (great, ((), minus(2, (), great), (), ())))
        self.no(("free", MUG, X), (with_terms(2, 601), minus(2, (), great)))

    def test_degrees_of_what_is_claimed(self):
        unit = number(2, ONE)
        for powers in ((4, 0), (3, 1), (5, 0), (2, 3), (0, 40)):
            one = power(*powers)
            told = sum(powers) <= 4
            self.assertIs(accepts(("free", MUG, one), FIELD), told)
            self.assertIs(accepts(("enough", MUG, "seen", (1,), one), known_by_glass(one)), told)
        wrong = ((((1, 0), (2, 4)),), X + X, Y + X, None, [], list(X), power(1), power(1, 0, 0), Prickly())
        for one in wrong:
            self.no(("free", MUG, one), FIELD)
            self.no(("known", MUG, one), (unit, ((),) * 4))
            self.no(("enough", MUG, "seen", (1,), one), (unit, ((),) * 8))
            self.no(("needed", MUG, "seen", 0, one), ())

    def test_fields_that_change_a_look_or_nothing(self):
        unit, back = number(2, ONE), number(2, (-1, 1))
        self.yes(("free", MUG, X), (unit, back), (back, unit), (X, minus(2, (), X)))
        self.no(("free", MUG, X), (unit, ()), (unit, unit), ((), back), ((), ()), (X, minus(2, (), Y)))
        self.no(("free", MUG, plus(2, X, Y)), (unit, back), (unit, ()), ((), ()))
        self.no(("free", GLASS, X), (unit, back), (unit, ()), ((), unit), ((), ()))
        self.yes(("free", LOST, X), (unit, ()), (unit, X))
        self.no(("free", LOST, Y), (unit, ()))
        self.no(("free", BARE, ()), ())
        self.no(("free", BARE, number(0, ONE)), ())

    def test_above_the_bounds_of_knowledge(self):
        # What knowledge does not work out may be told, and multiplied out.
        for net in (THIRTEEN, FOURTEEN, NINE):
            many = net[1]
            self.raises(TooMany, "given", {THIRTEEN: 13, FOURTEEN: 14, NINE: 9}[net], knowledge, net, ())
            self.yes(("known", net, number(many, HALF)), (number(many, ONE), ((),) * len(looks_of(net))))
        outflow = plus(4, power(0, 1, 0, 0), number(4, HALF))
        self.no(("free", NINE, outflow), (number(4, ONE), (), (), ()))

    def test_enough(self):
        for claim, paper in all_certificates():
            if claim[0] == "enough":
                _, net, kind, choice, polynomial = claim
                self.yes(("known", wider(net, kind, choice), polynomial), paper)
                if choice:
                    self.no(("known", net, polynomial), paper)
        right = certify_enough(MUG, "seen", (1,), X)
        self.yes(*right)
        for choice in ((), (0,), (0, 1), [1], (2,), (True,), None):
            self.no(("enough", MUG, "seen", choice, X), right[1])
        self.no(("enough", MUG, "filled", (1,), X), right[1])
        self.no(("enough", MUG, "see", (1,), X), right[1])
        self.no(("enough", MUG, (1,), "seen", X), right[1])
        self.no(("enough", MUG, None, (1,), X), right[1])


class Rank(Judged):
    def test_by_hand(self):
        unit, back = number(2, ONE), number(2, (-1, 1))
        point = (HALF, THIRD)
        self.yes(("rank", MUG, 1), (((1, 0, 0),), (FIELD,), point), (((1, 0, 0),), ((X, minus(2, (), X)),), point))
        # The slopes of the look at 2 are nought where x0 + x1 is 1.
        self.yes(("rank", MUG, 1), (((2, 0, 0),), (FIELD,), point))
        self.no(("rank", MUG, 1), (((2, 0, 0),), (FIELD,), (HALF, HALF)), (((0, 0, 0),), (FIELD,), point))
        # Where x0 is 0 this field is.
        field = (X, minus(2, (), X))
        self.no(("rank", MUG, 1), (((1, 0, 0),), (field,), (NIL, THIRD)))
        self.no(("rank", MUG, 1), (((1, 0, 0),), ((unit, unit),), point), (((1, 0, 0),), ((), ()), point))
        self.no(("rank", MUG, 2), (((1, 0, 0), (2, 0, 0)), (), point), (((1, 0, 0), (1, 0, 0)), (), point))
        self.no(("rank", MUG, 0), ((), ((unit, ()), ((), unit)), point), ((), (FIELD, FIELD), point))
        self.yes(("rank", LOST, 0), ((), ((unit, ()), ((), unit)), point), ((), ((X, unit), (unit, ())), point))
        self.no(("rank", LOST, 0), ((), ((unit, back), (X, minus(2, (), X))), point), ((), ((unit, ()),), point))
        self.yes(("rank", BARE, 0), ((), (), ()))
        self.no(("rank", BARE, 0), ((), ((),), ()), ((), (), (HALF,)), (((0, 0, 0),), (), ()))
        self.yes(("rank", GLASS, 2), (((1, 0, 0), (1, 1, 0)), (), point), (((2, 1, 0), (1, 1, 0)), (), point))
        self.no(("rank", GLASS, 2), (((1, 1, 0), (1, 1, 0)), (), point))

    def test_the_point(self):
        paper = (((1, 0, 0),), (FIELD,))
        for point in ((HALF, THIRD), ((999, 998), (-999, 1)), (NIL, NIL)):
            self.yes(("rank", MUG, 1), paper + (point,))
        more = (((1000, 1), NIL), ((1, 1000), NIL), ((2, 2), NIL), (HALF, True))
        for point in ((HALF,), (HALF, THIRD, ONE), [HALF, THIRD], None, ()) + more:
            self.no(("rank", MUG, 1), paper + (point,))

    def test_looks_in_another_order_and_other_looks(self):
        for net in NETS + (TWELVE, EIGHT):
            (word, _, rank), (looks, fields, point) = certify_rank(net)
            self.yes((word, net, rank), (looks[::-1], fields[::-1], point))
            if rank:
                # The looks at 0 have no slopes; one that is told twice hangs together with itself.
                self.no((word, net, rank), (looks[:-1] + ((0,) + looks[0][1:],), fields, point))
                if rank > 1:
                    self.no((word, net, rank), (looks[:-1] + looks[:1], fields, point))
                self.no((word, net, rank), (looks[:-1] + ((2 * net[0],) + looks[-1][1:],), fields, point))
                self.no((word, net, rank - 1), (looks[:-1], fields, point), (looks[:-1], fields + fields[:1], point))
            if fields:
                self.no((word, net, rank), (looks, fields[:-1] + (((),) * net[1],), point))
                self.no((word, net, rank + 1), (looks + looks[:1], fields[:-1], point), (looks, fields[:-1], point))
            if len(fields) > 1:
                self.no((word, net, rank), (looks, fields[:-1] + fields[:1], point))

    def test_which_ranks(self):
        paper = ((), (), ())
        for rank in (-1, 5, True, False, None, "0", (0,), [0], 10 ** 30):
            self.no(("rank", BARE, rank), paper)
        for rank in range(5):
            self.assertIs(accepts(("rank", BARE, rank), paper), rank == 0)
            self.assertIs(accepts(("rank", FULL, rank), certify_rank(FULL)[1]), rank == 4)


class Needed(Judged):
    def test_by_hand(self):
        unit = number(2, ONE)
        self.yes(("needed", MUG, "seen", 0, X), ())
        self.yes(("needed", MUG, "seen", 1, X), (((), FIELD),))
        self.no(("needed", MUG, "seen", 2, X), (((1,), FIELD),), (((), FIELD), ((1,), FIELD)), (((), FIELD),), ())
        self.yes(("needed", MUG, "filled", 2, X), (((1,), FIELD),))
        # There is one tank left: more than all of them can not be asked for.
        self.yes(("needed", MUG, "filled", 3, X), (((1,), FIELD),))
        self.yes(("needed", MUG, "filled", 4, X), (((1,), FIELD),))
        self.no(("needed", MUG, "filled", 5, X), (((1,), FIELD),))
        self.no(("needed", MUG, "filled", 2, X), (((), FIELD),), (((), FIELD), ((1,), FIELD)), ())
        self.yes(("needed", BARE, "seen", 0, ()), ())
        self.no(("needed", BARE, "seen", 1, ()), (((), ()),), ())
        # The other one is known without any more tanks.
        self.no(("needed", MUG, "seen", 1, plus(2, X, Y)), (((), FIELD),), (((), (unit, ())),))

    def test_counts_and_kinds(self):
        for count in (-1, 5, True, False, None, "0", (0,)):
            self.no(("needed", MUG, "seen", count, X), (), (((), FIELD),))
        for kind in (None, "see", b"seen", ("seen",), 0, Prickly()):
            self.no(("needed", MUG, kind, 0, X), ())
            self.no(("needed", MUG, kind, 1, X), (((), FIELD),))

    def test_all_choices_in_order(self):
        # Each of three tanks is fed by its own unknown; the last one is asked of, and of two tanks none is enough.
        net = (4, 3, ((0, 1, ("x", 0)), (0, 2, ("x", 1)), (0, 3, ("x", 2))), (0,), (0,))
        asked = times(3, power(1, 0, 0), times(3, power(0, 1, 0), power(0, 0, 1)))
        claim, paper = certify_needed(net, "seen", asked)
        self.assertEqual((claim[3], [choice for choice, _ in paper]), (2, [(1,), (2,), (3,)]))
        self.yes(claim, paper)
        for order in itertools.permutations(paper):
            self.assertIs(accepts(claim, order), order == paper)
        for index in range(3):
            self.no(claim, paper[:index] + paper[index + 1:], paper[:index] + paper[:1] + paper[index:])
            for wrong in (((index + 1,), ()), ((index + 1,),), paper[index][::-1], list(paper[index]), None):
                self.no(claim, paper[:index] + (wrong,) + paper[index + 1:])
        first = ((True,), paper[0][1])
        self.no(claim, (first,) + paper[1:])
        self.no(claim, (([1], paper[0][1]),) + paper[1:], (((), paper[0][1]),) + paper[1:])
        # A field that is right for another choice changes what is seen with this one.
        self.no(claim, ((paper[0][0], paper[1][1]), (paper[1][0], paper[0][1]), paper[2]))

    def test_a_greater_count_is_not_so(self):
        for claim, paper in all_certificates():
            if claim[0] == "needed":
                _, net, kind, count, polynomial = claim
                left = net[0] - len(net[4 if kind == "seen" else 3])
                for other in range(5):
                    told = accepts((claim[0], net, kind, other, polynomial), paper)
                    # More than one above how many are left asks for the same choice.
                    self.assertIs(told, other == count or (count == left + 1 and other > count))


class Renamed(Judged):
    def test_all_pairs_of_orders(self):
        for net in (TWINS, MUG, CHAIN, BARE, UNKNOWING, CUP):
            right = renamings(net)
            for tanks in itertools.product(range(3), repeat=net[0]):
                for names in itertools.product(range(2), repeat=net[1]):
                    told = (tanks, names) in right
                    self.assertIs(accepts(("renaming", net, tanks, names), ()), told)
                    self.assertIs(accepts(("no renaming", net, tanks, names), ()), not told)

    def test_names_of_any_number(self):
        more = ((SWAP[0], (1, 0, 2)), (SWAP[0], (0, 1)), SWAP[::-1])
        for tanks, names in (((), ()), ((9, 8, 7, 6), ()), ((-1,), (10 ** 30,))) + more:
            self.yes(("no renaming", TWINS, tanks, names), ())
            self.no(("renaming", TWINS, tanks, names), ())

    def test_what_are_no_names(self):
        more = ((True, 0), (1, False), (None, 0), ((1,), 0), ("1", "0"))
        for wrong in (None, 0, "01", [1, 0], (0, 1, 2, 3, 4), Prickly()) + more:
            for word in ("renaming", "no renaming"):
                self.no((word, TWINS, SWAP[0], wrong), ())
                self.no((word, TWINS, wrong, SWAP[1]), ())
        for paper in (None, [], SWAP, 0, ((),), False):
            self.no(("renaming", TWINS) + SWAP, paper)
            self.no(("no renaming", PAIR) + SWAP, paper)


def unknowns_in(many, one):
    """For each unknown, whether the polynomial has it."""
    return [any(powers[unknown] for powers, _ in one) for unknown in range(many)]


def knowledge_rows(net):
    """For each look, of which unknowns its polynomial has any."""
    return [unknowns_in(net[1], by_powers(net, look)) for look in looks_of(net)]


def known_by_glass(one):
    """The paper for what is known by the glass, where x0 and 1 - x0 - x1 are looks, whatever its degree."""
    slopes = [as_terms(kept) for kept in slopes_by(2, one)]
    # The slopes of the looks are (-1, -1) and (1, 0).
    return (number(2, ONE), ((), (), minus(2, (), slopes[1]), minus(2, slopes[0], slopes[1])) + ((),) * 4)


if __name__ == "__main__":
    unittest.main()
