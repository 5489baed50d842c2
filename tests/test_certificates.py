"""Point 30, with 4 to 6: certificates, each one with the claim that is so and a paper that is accepted."""

import itertools
import random
import unittest

from generic import APART, ASKED, EIGHT, FOURTEEN, GLASS, MUG, NINE, NOT_ASKED, TEN, THIRTEEN, TWELVE, TWINS, WRONG_NETS
from generic import not_asked_at, some_nets, taken_by
from hiddenrates.certificates import certify_alike, certify_enough, certify_known, certify_needed, certify_rank
from hiddenrates.certificates import certify_renaming, certify_runs
from hiddenrates.checker import accepts
from hiddenrates.choices import fewest, wider
from hiddenrates.errors import InvalidAssignment, InvalidChoice, InvalidFillings, InvalidKind, InvalidNet
from hiddenrates.errors import InvalidPolynomial, InvalidRenaming, TooMany
from hiddenrates.knowledge import fields_of, knowledge, minor_of, taken_looks
from hiddenrates.nets import are_alike, parting, seen_in
from hiddenrates.polynomials import number, plus, times, unknown_of, worth
from hiddenrates.renamings import renamings
from samples import BARE, CHAIN, HALF, NIL, ONE, PAIR, RING, THINGS, THIRD, Prickly, Told, pair
from terms import X, Y, power, some_fraction, some_polynomial

SWAP = ((0, 2, 1), (1, 0))
NETS = ASKED + tuple(some_nets(141, 25))
OVER = ((THIRTEEN, 13), (FOURTEEN, 14), (NINE, 9), (TEN, 10))
NO_SHARES = (
    (None, None),
    ([HALF, THIRD], None),
    ((HALF,), None),
    ((HALF, THIRD, ONE), None),
    ((HALF, (2, 4)), 1),
    (((1000, 1), (2, 4)), 0),
    ((True, HALF), 0),
    (Prickly(), None),
    ((HALF, Prickly()), 1),
)


def no_shares_at(place):
    return tuple((place, value, InvalidAssignment, "index", index) for value, index in NO_SHARES)


def some_shares(source, net):
    return tuple(pair(some_fraction(source)) for _ in range(net[1]))


def choices_by(net, kind):
    left = [tank for tank in range(net[0]) if tank not in net[4 if kind == "seen" else 3]]
    return [choice for count in range(len(left) + 1) for choice in itertools.combinations(left, count)]


class Certified(Told):
    def certified(self, function, *arguments):
        """The claim and the paper: the same when asked twice, and accepted."""
        told = function(*arguments)
        self.assertIs(type(told), tuple)
        claim, paper = told
        self.assertIs(accepts(claim, paper), True)
        self.assertEqual(function(*arguments), told)
        return claim, paper


class Examples(Certified):
    def test_as_they_stand(self):
        x, y = unknown_of(2, 0), unknown_of(2, 1)
        pair = (2, 2, ((0, 1, ("x", 0)), (1, 0, ("x", 1)), (1, None, (1, 2))), (0,), (0,))
        fork = (2, 2, ((0, 1, ("x", 0)), (0, None, ("x", 1))), (0,), (0,))
        twins = (3, 2, ((0, 1, ("x", 0)), (0, 2, ("x", 1)), (1, 0, (1, 2)), (2, 0, (1, 2))), (0,), (0,))
        self.assertEqual(
            [
                certify_known(fork, x)[0][0],
                certify_known(pair, y)[0][0],
                certify_rank(fork)[0][2],
                certify_enough(fork, "seen", (1,), x)[0][0],
            ],
            ["free", "known", 1, "enough"],
        )
        self.assertEqual(
            [
                certify_needed(fork, "seen", x)[0][3],
                certify_needed(fork, "filled", x)[0][3],
                certify_needed(fork, "seen", plus(2, x, y)) == (("needed", fork, "seen", 0, plus(2, x, y)), ()),
            ],
            [1, 2, True],
        )
        self.assertEqual(
            [
                certify_renaming(twins, (0, 2, 1), (1, 0))[0][0],
                certify_renaming(twins, (0, 2, 1), (0, 1))[0][0],
                certify_alike(pair, ((1, 2), (1, 3)), ((1, 2), (1, 2)))[1],
            ],
            ["renaming", "no renaming", (2, 0, 0)],
        )


class Alike(Certified):
    def test_just_one_of_both(self):
        source = random.Random(142)
        words = set()
        for net in NETS:
            one = some_shares(source, net)
            for other in (one, some_shares(source, net), one[::-1]):
                claim, paper = self.certified(certify_alike, net, one, other)
                word = "alike" if are_alike(net, one, other) else "parted"
                self.assertEqual(claim, (word, net, one, other))
                self.assertEqual(paper, () if word == "alike" else parting(net, one, other))
                words.add(word)
        self.assertEqual(words, {"alike", "parted"})

    def test_wrong_arguments(self):
        wrong = WRONG_NETS + no_shares_at(1) + no_shares_at(2)
        self.all_wrong(certify_alike, ("net", "one", "other"), (MUG, (HALF, THIRD), (NIL, ONE)), wrong)
        for thing in THINGS:
            self.raises(InvalidNet, "given", thing, certify_alike, thing, thing, thing)


class Runs(Certified):
    def test_just_one_of_both(self):
        source = random.Random(143)
        words = set()
        for net in NETS:
            one, other = some_shares(source, net), some_shares(source, net)
            for beats in (0, 1, 2, 5):
                fillings = tuple(tuple(pair(some_fraction(source)) for _ in net[3]) for _ in range(beats))
                claim, paper = self.certified(certify_runs, net, one, other, fillings)
                same = seen_in(net, one, fillings) == seen_in(net, other, fillings)
                self.assertEqual(claim, ("runs alike" if same else "runs unlike", net, one, other, fillings))
                self.assertEqual(paper, ())
                words.add(claim[0])
        self.assertEqual(words, {"runs alike", "runs unlike"})

    def test_a_filling_of_one_shows_what_parts(self):
        source = random.Random(144)
        for net in NETS:
            one, other = some_shares(source, net), some_shares(source, net)
            look = parting(net, one, other)
            if look is not None:
                filled = tuple(ONE if tank == look[2] else NIL for tank in net[3])
                fillings = (filled,) + (tuple(NIL for _ in net[3]),) * look[0]
                self.assertEqual(certify_runs(net, one, other, fillings)[0][0], "runs unlike")

    def test_wrong_arguments(self):
        fillings = tuple(
            (3, value, InvalidFillings, "index", index)
            for value, index in (
                (None, None),
                ([(ONE,)], None),
                (((ONE,),) * 31, None),
                (((ONE,), (ONE, ONE)), 1),
                (((ONE,), ONE), 1),
                (((True,), ()), 0),
                (((ONE,), ((2, 2),)), 1),
                (Prickly(), None),
                (((ONE,), Prickly()), 1),
            )
        )
        names = ("net", "one", "other", "fillings")
        right = (MUG, (HALF, THIRD), (NIL, ONE), ((ONE,),) * 30)
        self.all_wrong(certify_runs, names, right, WRONG_NETS + no_shares_at(1) + no_shares_at(2) + fillings)
        for thing in THINGS:
            self.raises(InvalidNet, "given", thing, certify_runs, thing, thing, thing, thing)


class Known(Certified):
    def test_just_one_of_both(self):
        source = random.Random(145)
        words = set()
        for net in NETS:
            asked = [(), number(net[1], HALF), some_polynomial(source, net[1], 2)]
            for one in asked + [unknown_of(net[1], unknown) for unknown in range(net[1])]:
                claim, paper = self.certified(certify_known, net, one)
                told = knowledge(net, one)
                self.assertEqual(claim, (told[0], net, one))
                self.assertEqual(len(paper), 2 if told[0] == "known" else net[1])
                words.add(told[0])
        self.assertEqual(words, {"known", "free"})

    def test_too_many(self):
        for net, told in OVER:
            self.raises(TooMany, "given", told, certify_known, net, ())
        self.certified(certify_known, TWELVE, ())
        self.certified(certify_known, EIGHT, number(4, HALF))
        self.raises(TooMany, "given", 13, certify_known, TWELVE, power(1, 0, 0))
        self.raises(TooMany, "given", 9, certify_known, EIGHT, power(0, 1, 0, 0))

    def test_wrong_arguments(self):
        self.all_wrong(certify_known, ("net", "polynomial"), (MUG, Y), WRONG_NETS + not_asked_at(1))
        for thing in THINGS:
            self.raises(InvalidPolynomial, "given", thing, certify_known, MUG, thing)


class Rank(Certified):
    def test_how_many_are_taken(self):
        for net in NETS + (TWELVE, EIGHT):
            claim, (looks, fields, point) = self.certified(certify_rank, net)
            taken = taken_by(net)[0]
            self.assertEqual(claim, ("rank", net, len(taken)))
            self.assertEqual((len(looks), len(fields), len(point)), (len(taken), net[1] - len(taken), net[1]))

    def test_the_point_is_beside_all_zeros_of_the_minor(self):
        zeros = 0
        for net in NETS:
            _, (looks, fields, point) = certify_rank(net)
            self.assertEqual((looks, fields), (taken_looks(net), fields_of(net)))
            self.assertNotEqual(worth(net[1], minor_of(net), point), NIL)
            zeros += worth(net[1], minor_of(net), (NIL,) * net[1]) == NIL
        self.assertGreater(zeros, 3)

    def test_too_many(self):
        for net, told in OVER:
            self.raises(TooMany, "given", told, certify_rank, net)

    def test_wrong_arguments(self):
        self.all_wrong(certify_rank, ("net",), (MUG,), WRONG_NETS)
        for thing in THINGS:
            self.raises(InvalidNet, "given", thing, certify_rank, thing)


class Enough(Certified):
    def test_enough_or_free_even_so(self):
        source = random.Random(146)
        words = set()
        for net in NETS:
            asked = [unknown_of(net[1], unknown) for unknown in range(net[1])] + [some_polynomial(source, net[1], 2)]
            for kind in ("seen", "filled"):
                for choice in choices_by(net, kind):
                    one = source.choice(asked)
                    claim, _ = self.certified(certify_enough, net, kind, choice, one)
                    more = wider(net, kind, choice)
                    if knowledge(more, one)[0] == "known":
                        self.assertEqual(claim, ("enough", net, kind, choice, one))
                    else:
                        self.assertEqual(claim, ("free", more, one))
                    words.add(claim[0])
        self.assertEqual(words, {"enough", "free"})

    def test_too_many(self):
        for net, told in OVER:
            self.raises(TooMany, "given", told, certify_enough, net, "seen", (), ())
        # With more tanks seen the sum may be less, and is counted so.
        self.certified(certify_enough, THIRTEEN, "seen", (0, 1, 2), power(1, 0, 0))
        self.raises(TooMany, "given", 13, certify_enough, TWELVE, "filled", (), power(1, 0, 0))

    def test_wrong_arguments(self):
        kinds = tuple((1, value, InvalidKind, "given", value) for value in (None, "see", b"seen", ["seen"], Prickly()))
        choices = tuple(
            (2, value, InvalidChoice, "given", value)
            for value in (None, 1, [1], (0,), (2,), (1, 1), (True,), (-1,), Prickly(), (Prickly(),))
        )
        names = ("net", "kind", "choice", "polynomial")
        wrong = WRONG_NETS + kinds + choices + not_asked_at(3)
        self.all_wrong(certify_enough, names, (MUG, "seen", (1,), Y), wrong)
        self.all_wrong(certify_enough, names, (MUG, "filled", (), Y), wrong)
        for thing in THINGS:
            self.raises(InvalidKind, "given", thing, certify_enough, MUG, thing, thing, thing)
            self.raises(InvalidChoice, "given", thing, certify_enough, MUG, "seen", thing, thing)
            self.raises(InvalidPolynomial, "given", thing, certify_enough, MUG, "seen", (1,), thing)


class Needed(Certified):
    def test_as_many_as_the_fewest(self):
        source = random.Random(147)
        counts = set()
        for net in NETS:
            asked = [unknown_of(net[1], unknown) for unknown in range(net[1])] + [some_polynomial(source, net[1], 2)]
            for one, kind in itertools.product(asked, ("seen", "filled")):
                try:
                    least = fewest(net, one, kind)
                except TooMany as error:
                    self.raises(TooMany, "given", error.given, certify_needed, net, kind, one)
                    continue
                claim, paper = self.certified(certify_needed, net, kind, one)
                left = choices_by(net, kind)[-1]
                count = len(left) + 1 if least is None else len(least)
                self.assertEqual(claim, ("needed", net, kind, count, one))
                told = [choice for choice, _ in paper]
                self.assertEqual(told, [choice for choice in choices_by(net, kind) if len(choice) == count - 1])
                counts.add((count, least is None))
        self.assertLessEqual({(0, False), (1, False), (1, True), (2, True), (3, True)}, counts)

    def test_two_tanks_are_needed(self):
        net = (4, 3, ((0, 1, ("x", 0)), (0, 2, ("x", 1)), (0, 3, ("x", 2))), (0,), (0,))
        asked = plus(3, power(1, 0, 0), times(3, number(3, (2, 1)), power(0, 0, 1)))
        claim, paper = self.certified(certify_needed, net, "seen", asked)
        self.assertEqual((claim[3], [choice for choice, _ in paper]), (2, [(1,), (2,), (3,)]))
        self.assertEqual(self.certified(certify_needed, net, "filled", asked)[0][3], 4)

    def test_too_many(self):
        for net, told in OVER:
            self.raises(TooMany, "given", told, certify_needed, net, "filled", ())
        self.assertEqual(self.certified(certify_needed, TWELVE, "seen", ()), (("needed", TWELVE, "seen", 0, ()), ()))
        self.raises(TooMany, "given", 13, certify_needed, TWELVE, "seen", power(1, 0, 0))
        late = (3, 4, ((0, 1, ("x", 0)), (1, 2, ("x", 1)), (1, None, ("x", 2)), (2, None, ("x", 3))), (0,), (0,))
        self.assertEqual(self.certified(certify_needed, late, "seen", power(0, 0, 0, 2))[0][3], 1)
        self.raises(TooMany, "given", 9, certify_needed, late, "seen", power(0, 0, 0, 3))

    def test_wrong_arguments(self):
        kinds = tuple((1, value, InvalidKind, "given", value) for value in (None, "see", b"seen", ["seen"], Prickly()))
        names = ("net", "kind", "polynomial")
        self.all_wrong(certify_needed, names, (MUG, "seen", Y), WRONG_NETS + kinds + not_asked_at(2))
        for thing in THINGS:
            self.raises(InvalidKind, "given", thing, certify_needed, MUG, thing, thing)
            self.raises(InvalidPolynomial, "given", thing, certify_needed, MUG, "filled", thing)
        # What is raised last comes behind what is wrong.
        self.raises(InvalidKind, "given", None, certify_needed, THIRTEEN, None, NOT_ASKED[0])
        self.raises(InvalidPolynomial, "given", X, certify_needed, THIRTEEN, "seen", X)


class Renaming(Certified):
    def test_just_one_of_both(self):
        for net in (TWINS, MUG, GLASS, CHAIN, RING, BARE, APART):
            right = renamings(net)
            for tanks in itertools.product(range(3), repeat=net[0]):
                for names in itertools.product(range(-1, 3), repeat=net[1]):
                    claim, paper = self.certified(certify_renaming, net, tanks, names)
                    word = "renaming" if (tanks, names) in right else "no renaming"
                    self.assertEqual((claim, paper), ((word, net, tanks, names), ()))

    def test_any_names(self):
        for tanks, names in (((), ()), ((9, 8, 7, 6), (1, 0)), (SWAP[0], (1, 0, 2)), (SWAP[0], (-1, 10 ** 30))):
            claim, _ = self.certified(certify_renaming, TWINS, tanks, names)
            self.assertEqual(claim, ("no renaming", TWINS, tanks, names))

    def test_wrong_arguments(self):
        wrong = (None, 0, "01", [1, 0], (0, 1, 2, 3, 4), (True, 0), (0, False), (None,), ((1, 0),), (Prickly(),))
        both = tuple((place, value, InvalidRenaming, "given", value) for place in (1, 2) for value in wrong)
        self.all_wrong(certify_renaming, ("net", "tanks", "names"), (TWINS,) + SWAP, WRONG_NETS + both)
        for thing in THINGS:
            if type(thing) is not tuple or not all(type(part) is int for part in thing):
                self.raises(InvalidRenaming, "given", thing, certify_renaming, PAIR, thing, thing)
                self.raises(InvalidRenaming, "given", thing, certify_renaming, PAIR, (0, 1), thing)


if __name__ == "__main__":
    unittest.main()
