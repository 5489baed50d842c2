"""Point 21, with 4 to 6, 9 and 14: looks, their polynomials and slopes."""

import itertools
import random
import unittest

from generic import ASKED, CUP, EIGHT, FULL, GLASS, LOST, MUG, NOT_ASKED, TWELVE, UNKNOWING, WRONG_NETS
from generic import by_powers, by_walks, not_asked_at, slopes_by, some_net, some_nets, triples
from hiddenrates.errors import InvalidLook, InvalidNet, InvalidPolynomial
from hiddenrates.looks import look_polynomial, looks_of, slopes_of
from hiddenrates.nets import looks_in
from hiddenrates.polynomials import is_polynomial, number, plus, slope, times, unknown_of, worth
from hiddenrates.writings import show_polynomial
from samples import BARE, HALF, NIL, ONE, PAIR, RING, THINGS, WIDE, Prickly, Told, pair
from terms import X, Y, all_powers, as_terms, power, some_fraction, some_polynomial, with_terms

# None of these is a look of the mug, in which tank 0 alone is filled and seen.
NO_LOOKS = (
    None,
    0,
    (),
    (0,),
    (0, 0),
    (0, 0, 0, 0),
    [0, 0, 0],
    (4, 0, 0),
    (-1, 0, 0),
    (0, 1, 0),
    (0, 0, 1),
    (0, -1, 0),
    (0, 0, -2),
    (0, 2, 0),
    (True, 0, 0),
    (0, False, 0),
    (0, 0, False),
    (None, 0, 0),
    (0, None, 0),
    (0, 0, "0"),
    (0, (0,), 0),
    ((0, 0, 0),),
    Prickly(),
    (Prickly(),) * 3,
)


class Examples(Told):
    def test_as_they_stand(self):
        x, y = unknown_of(2, 0), unknown_of(2, 1)
        mug = (2, 2, ((0, 1, ("x", 0)), (0, None, ("x", 1))), (0,), (0,))
        self.assertEqual(
            [
                looks_of(mug),
                show_polynomial(2, look_polynomial(mug, (1, 0, 0))),
                show_polynomial(2, look_polynomial(mug, (2, 0, 0))),
            ],
            [
                ((0, 0, 0), (1, 0, 0), (2, 0, 0), (3, 0, 0)),
                "-x0 - x1 + 1",
                "x0^2 + 2 x0 x1 + x1^2 - 2 x0 - 2 x1 + 1",
            ],
        )
        self.assertEqual([slopes_of(mug, times(2, x, y)) == (y, x), slopes_of(mug, ())], [True, ((), ())])


class LooksOf(Told):
    def test_by_hand(self):
        self.assertEqual(looks_of(BARE), ((0, 0, 0), (1, 0, 0)))
        self.assertEqual(looks_of(RING), tuple((power, 2, 0) for power in range(6)))
        self.assertEqual(
            looks_of(GLASS),
            ((0, 0, 0), (0, 1, 0), (1, 0, 0), (1, 1, 0), (2, 0, 0), (2, 1, 0), (3, 0, 0), (3, 1, 0)),
        )
        self.assertEqual(
            looks_of((2, 0, (), (0, 1), (1,))),
            ((0, 1, 0), (0, 1, 1), (1, 1, 0), (1, 1, 1), (2, 1, 0), (2, 1, 1), (3, 1, 0), (3, 1, 1)),
        )

    def test_ascending_and_all_of_them(self):
        for net in ASKED + tuple(some_nets(71, 40)):
            told = looks_of(net)
            self.assertIs(type(told), tuple)
            self.assertTrue(all(one < two for one, two in zip(told, told[1:])))
            self.assertEqual(list(told), sorted(triples(net, 2 * net[0])))
            self.assertEqual(len(told), 2 * net[0] * len(net[3]) * len(net[4]))

    def test_wrong_nets(self):
        self.all_wrong(looks_of, ("net",), (MUG,), WRONG_NETS)
        for thing in THINGS:
            self.raises(InvalidNet, "given", thing, looks_of, thing)


class LookPolynomial(Told):
    def test_by_hand(self):
        self.assertEqual(look_polynomial(MUG, (0, 0, 0)), number(2, ONE))
        self.assertEqual(look_polynomial(GLASS, (0, 1, 0)), ())
        self.assertEqual(look_polynomial(GLASS, (1, 1, 0)), X)
        self.assertEqual(
            [show_polynomial(2, look_polynomial(PAIR, (power, 0, 0))) for power in range(4)],
            ["1", "-x0 + 1", "x0^2 + x0 x1 - 2 x0 + 1", "-x0^3 - 2 x0^2 x1 - x0 x1^2 + 3 x0^2 + 5/2 x0 x1 - 3 x0 + 1"],
        )
        self.assertEqual(
            [show_polynomial(1, look_polynomial(RING, (power, 2, 0))) for power in range(4)],
            ["0", "0", "x0^2", "-2 x0^3 + 3 x0^2"],
        )
        self.assertEqual(look_polynomial(BARE, (1, 0, 0)), number(0, ONE))
        self.assertEqual(look_polynomial(UNKNOWING, (1, 1, 0)), number(0, HALF))

    def test_the_sum_over_all_walks(self):
        source = random.Random(72)
        for net in ASKED + (TWELVE, EIGHT) + tuple(some_nets(73, 25)):
            for look in looks_of(net):
                if look[0] < 5 or source.randrange(6) == 0:
                    told = look_polynomial(net, look)
                    self.assertIs(is_polynomial(net[1], told), True)
                    self.assertEqual(told, by_walks(net, look))

    def test_multiplied_step_by_step(self):
        source = random.Random(74)
        for net in (WIDE, FULL, some_net(source, 4, 3, 12, 2, 2), some_net(source, 3, 4, 12, 3, 3)):
            for look in looks_of(net):
                self.assertEqual(look_polynomial(net, look), by_powers(net, look))

    def test_what_is_seen_at_assignments(self):
        source = random.Random(75)
        for net in ASKED + tuple(some_nets(76, 25)):
            for _ in range(2):
                assignment = tuple(pair(some_fraction(source)) for _ in range(net[1]))
                seen = looks_in(net, assignment, 2 * net[0])
                for power, tank, filled in looks_of(net):
                    told = worth(net[1], look_polynomial(net, (power, tank, filled)), assignment)
                    self.assertEqual(told, seen[power][net[4].index(tank)][net[3].index(filled)])

    def test_great_shares(self):
        net = (2, 2, ((0, 1, (997, 998)), (0, 1, ("x", 0)), (1, 0, (-995, 999)), (1, None, ("x", 1))), (0, 1), (0, 1))
        for look in looks_of(net):
            self.assertEqual(look_polynomial(net, look), by_walks(net, look))

    def test_wrong_looks(self):
        wrong = tuple((1, value, InvalidLook, "given", value) for value in NO_LOOKS)
        self.all_wrong(look_polynomial, ("net", "look"), (MUG, (3, 0, 0)), WRONG_NETS + wrong)
        for thing in THINGS:
            self.raises(InvalidLook, "given", thing, look_polynomial, MUG, thing)
        # True is no number, though it is equal to one.
        for look in ((True, 1, 1), (1, True, 1), (1, 1, True)):
            self.raises(InvalidLook, "given", look, look_polynomial, FULL, look)

    def test_which_looks_there_are(self):
        for net in (GLASS, RING, LOST, BARE, CUP, (3, 1, (), (0, 2), (1,))):
            looks = looks_of(net)
            for look in itertools.product(range(-1, 9), range(-1, 5), range(-1, 5)):
                if look in looks:
                    self.assertEqual(look_polynomial(net, look), by_powers(net, look))
                else:
                    self.raises(InvalidLook, "given", look, look_polynomial, net, look)


class SlopesOf(Told):
    def test_each_slope(self):
        source = random.Random(77)
        for net in ASKED:
            for _ in range(5):
                one = some_polynomial(source, net[1], 4)
                told = slopes_of(net, one)
                self.assertEqual(told, tuple(slope(net[1], one, unknown) for unknown in range(net[1])))
                self.assertEqual(told, tuple(map(as_terms, slopes_by(net[1], one))))

    def test_without_unknowns(self):
        self.assertEqual(slopes_of(BARE, ()), ())
        self.assertEqual(slopes_of(BARE, number(0, HALF)), ())

    def test_of_sums_and_products(self):
        source = random.Random(78)
        for _ in range(20):
            one, two = some_polynomial(source, 2, 2), some_polynomial(source, 2, 2)
            sums = tuple(plus(2, *slopes) for slopes in zip(slopes_of(MUG, one), slopes_of(MUG, two)))
            self.assertEqual(slopes_of(MUG, plus(2, one, two)), sums)
            products = tuple(
                plus(2, times(2, mine, two), times(2, one, yours))
                for mine, yours in zip(slopes_of(MUG, one), slopes_of(MUG, two))
            )
            self.assertEqual(slopes_of(MUG, times(2, one, two)), products)

    def test_the_degree(self):
        for powers in all_powers(2, 6):
            one = power(*powers)
            if sum(powers) <= 4:
                self.assertEqual(len(slopes_of(MUG, one)), 2)
            else:
                self.raises(InvalidPolynomial, "given", one, slopes_of, MUG, one)
        great = with_terms(4, 70, 4)
        self.assertEqual(len(slopes_of(WIDE, great)), 4)
        greater = with_terms(4, 71)
        self.raises(InvalidPolynomial, "given", greater, slopes_of, WIDE, greater)

    def test_wrong_polynomials(self):
        self.all_wrong(slopes_of, ("net", "polynomial"), (MUG, Y), WRONG_NETS + not_asked_at(1))
        for thing in THINGS:
            self.raises(InvalidPolynomial, "given", thing, slopes_of, MUG, thing)
        self.raises(InvalidPolynomial, "given", X, slopes_of, WIDE, X)
        wrong = (((1, 0), NIL),)
        self.assertIn(wrong, NOT_ASKED)
        self.raises(InvalidPolynomial, "given", wrong, slopes_of, MUG, wrong)


if __name__ == "__main__":
    unittest.main()
