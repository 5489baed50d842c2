"""Point 27, with 4 to 6: renamings, and what they lead assignments and polynomials to."""

import itertools
import random
import unittest

from generic import ASKED, MUG, TWINS, UNKNOWING, WRONG_NETS, some_nets
from hiddenrates.errors import InvalidAssignment, InvalidNet, InvalidPolynomial, InvalidRenaming
from hiddenrates.knowledge import knowledge
from hiddenrates.looks import look_polynomial, looks_of
from hiddenrates.nets import are_alike, looks_in
from hiddenrates.polynomials import renamed, unknown_of, worth
from hiddenrates.renamings import led, led_polynomial, renamings
from samples import BARE, CHAIN, HALF, NIL, ONE, PAIR, THINGS, THIRD, Prickly, Told, pair
from terms import X, Y, power, some_fraction, some_polynomial

SWAP = ((0, 2, 1), (1, 0))
# All but tank 0 are like one another.
STAR = (4, 3, ((0, 1, ("x", 0)), (0, 2, ("x", 1)), (0, 3, ("x", 2))), (0,), (0,))
# Two unknowns stand in the same pipes; the pipes stand in another order by the new names.
BESIDES = (2, 3, ((0, 1, ("x", 2)), (0, 1, HALF), (0, 1, ("x", 0)), (1, None, ("x", 1))), (0,), (1,))
CYCLE = (4, 0, ((1, 2, HALF), (2, 3, HALF), (3, 1, HALF)), (0,), (0,))
LOOSE = (3, 4, (), (1,), (1,))
SOME = ASKED + (STAR, BESIDES, CYCLE, LOOSE) + tuple(some_nets(101, 30))
# None of these is a renaming of the twins.
NO_RENAMINGS = (
    None,
    0,
    (),
    SWAP[:1],
    SWAP + ((),),
    list(SWAP),
    ([0, 2, 1], (1, 0)),
    ((0, 2, 1), [1, 0]),
    ((0, 2, 1), (0, 1)),
    ((0, 1, 2), (1, 0)),
    ((2, 1, 0), (1, 0)),
    ((1, 0, 2), (0, 1)),
    ((0, 1), (0, 1)),
    ((0, 1, 2, 3), (0, 1)),
    ((0, 1, 2), (0,)),
    ((0, 1, 2), (0, 1, 2)),
    ((0, 1, 1), (0, 1)),
    ((0, 1, 2), (0, 0)),
    ((0, 1, 3), (0, 1)),
    ((0, 1, -1), (0, 1)),
    ((False, 2, 1), (1, 0)),
    ((0, 2, True), (1, 0)),
    ((0, 2, 1), (True, 0)),
    ((0, 2, 1), (1, False)),
    ((0, 2, None), (1, 0)),
    (None, (1, 0)),
    ((0, 2, 1), None),
    "02",
    Prickly(),
    (Prickly(), Prickly()),
    ((Prickly(),) * 3, (1, 0)),
)
NOT_TOLD = tuple((1, value, InvalidRenaming, "given", value) for value in NO_RENAMINGS)


def by_new_names(net, tanks, names):
    """The pipes of the net, told by the new names."""
    told = []
    for start, end, share in net[2]:
        share = ("x", names[share[1]]) if share[0] == "x" else share
        told.append((tanks[start], None if end is None else tanks[end], share))
    return told


def renamings_by(net):
    """All renamings: all pairs of orders gone through."""
    told = []
    for tanks in itertools.permutations(range(net[0])):
        for names in itertools.permutations(range(net[1])):
            kept = all(tanks[tank] == tank for tank in net[3] + net[4])
            if kept and sorted(map(repr, by_new_names(net, tanks, names))) == sorted(map(repr, net[2])):
                told.append((tanks, names))
    return tuple(sorted(told))


def behind(one, two):
    """The renaming that does one of both, then the other one."""
    return tuple(tuple(second[index] for index in first) for first, second in zip(one, two))


def back(one):
    return tuple(tuple(order.index(index) for index in range(len(order))) for order in one)


class Examples(Told):
    def test_as_they_stand(self):
        x, y = unknown_of(2, 0), unknown_of(2, 1)
        fork = (2, 2, ((0, 1, ("x", 0)), (0, None, ("x", 1))), (0,), (0,))
        twins = (3, 2, ((0, 1, ("x", 0)), (0, 2, ("x", 1)), (1, 0, (1, 2)), (2, 0, (1, 2))), (0,), (0,))
        self.assertEqual(
            [
                renamings(twins),
                led(twins, ((0, 2, 1), (1, 0)), ((1, 3), (1, 5))),
                renamings(fork),
                led_polynomial(twins, ((0, 2, 1), (1, 0)), x) == y,
            ],
            [
                (((0, 1, 2), (0, 1)), ((0, 2, 1), (1, 0))),
                ((1, 5), (1, 3)),
                (((0, 1), (0, 1)),),
                True,
            ],
        )


class Renamings(Told):
    def test_against_all_orders(self):
        for net in SOME:
            told = renamings(net)
            self.assertEqual(told, renamings_by(net))
            self.assertTrue(all(one < two for one, two in zip(told, told[1:])))
            self.assertIn((tuple(range(net[0])), tuple(range(net[1]))), told)

    def test_how_many(self):
        counts = {STAR: 6, BESIDES: 2, CYCLE: 3, LOOSE: 48, BARE: 1, TWINS: 2, PAIR: 1, UNKNOWING: 1}
        for net, count in counts.items():
            self.assertEqual(len(renamings(net)), count)

    def test_without_pipes_and_without_unknowns(self):
        self.assertEqual(renamings(BARE), (((0,), ()),))
        self.assertEqual(renamings((2, 0, (), (0,), (0,))), (((0, 1), ()),))
        self.assertEqual(renamings((3, 0, (), (0,), (0,))), (((0, 1, 2), ()), ((0, 2, 1), ())))
        self.assertEqual(renamings((3, 0, ((0, 1, HALF), (0, 2, THIRD)), (0,), (0,))), (((0, 1, 2), ()),))
        self.assertEqual(renamings(CYCLE), (((0, 1, 2, 3), ()), ((0, 2, 3, 1), ()), ((0, 3, 1, 2), ())))
        self.assertEqual(renamings((1, 2, (), (0,), (0,))), (((0,), (0, 1)), ((0,), (1, 0))))

    def test_filled_and_seen_tanks_keep_their_names(self):
        base = (3, 0, ((0, 1, HALF), (0, 2, HALF)))
        self.assertEqual(len(renamings(base + ((0,), (0,)))), 2)
        for filled, seen in (((0,), (1,)), ((1,), (0,)), ((0, 2), (0,)), ((0,), (0, 1, 2))):
            self.assertEqual(len(renamings(base + (filled, seen))), 1)

    def test_done_one_behind_the_other_and_back(self):
        for net in SOME:
            told = renamings(net)
            for one in told:
                self.assertIn(back(one), told)
                for two in told[:8]:
                    self.assertIn(behind(one, two), told)

    def test_wrong_nets(self):
        self.all_wrong(renamings, ("net",), (TWINS,), WRONG_NETS)
        for thing in THINGS:
            self.raises(InvalidNet, "given", thing, renamings, thing)


class Led(Told):
    def test_each_share_at_its_new_name(self):
        source = random.Random(102)
        for net in SOME:
            assignment = tuple(pair(some_fraction(source)) for _ in range(net[1]))
            for tanks, names in renamings(net):
                told = led(net, (tanks, names), assignment)
                self.assertEqual([told[name] for name in names], list(assignment))
                self.assertIs(type(told), tuple)

    def test_three_names_go_round(self):
        order = ((0, 2, 3, 1), (1, 2, 0))
        self.assertEqual(led(STAR, order, (HALF, THIRD, ONE)), (ONE, HALF, THIRD))
        self.assertEqual(led_polynomial(STAR, order, power(1, 2, 0)), power(0, 1, 2))

    def test_it_is_alike(self):
        source = random.Random(103)
        for net in SOME:
            assignment = tuple(pair(some_fraction(source)) for _ in range(net[1]))
            for renaming in renamings(net):
                other = led(net, renaming, assignment)
                self.assertIs(are_alike(net, assignment, other), True)
                self.assertEqual(looks_in(net, assignment, 12), looks_in(net, other, 12))
                self.assertEqual(led(net, back(renaming), other), assignment)

    def test_wrong_arguments(self):
        shares = (HALF, THIRD)
        wrong = tuple(
            (2, value, InvalidAssignment, "index", index)
            for value, index in (
                (None, None),
                ([HALF, THIRD], None),
                ((HALF,), None),
                ((HALF, THIRD, ONE), None),
                ((HALF, (2, 4)), 1),
                (((1000, 1), HALF), 0),
                ((HALF, (1, 1000)), 1),
                ((True, HALF), 0),
                (Prickly(), None),
                ((HALF, Prickly()), 1),
            )
        )
        names = ("net", "renaming", "assignment")
        self.all_wrong(led, names, (TWINS, SWAP, shares), WRONG_NETS + NOT_TOLD + wrong)
        for thing in THINGS:
            self.raises(InvalidNet, "given", thing, led, thing, thing, thing)
            self.raises(InvalidRenaming, "given", thing, led, TWINS, thing, thing)
            self.raises(InvalidAssignment, "index", 0, led, TWINS, SWAP, (thing, NIL))

    def test_of_another_net(self):
        self.raises(InvalidRenaming, "given", SWAP, led, CHAIN, SWAP, (HALF, THIRD))
        self.raises(InvalidRenaming, "given", SWAP, led, MUG, SWAP, (HALF, THIRD))
        self.assertEqual(led(BARE, ((0,), ()), ()), ())


class LedPolynomial(Told):
    def test_each_unknown_under_its_new_name(self):
        source = random.Random(104)
        for net in SOME:
            for renaming in renamings(net):
                one = some_polynomial(source, net[1], 4)
                told = led_polynomial(net, renaming, one)
                self.assertEqual(told, renamed(net[1], one, renaming[1]))
                assignment = tuple(pair(some_fraction(source)) for _ in range(net[1]))
                # At the assignment that is led to, it is worth what it was.
                self.assertEqual(worth(net[1], told, led(net, renaming, assignment)), worth(net[1], one, assignment))

    def test_looks_are_the_same(self):
        for net in SOME:
            for renaming in renamings(net):
                for look in looks_of(net):
                    if look[0] <= 4:
                        one = look_polynomial(net, look)
                        self.assertEqual(led_polynomial(net, renaming, one), one)

    def test_known_if_the_renamed_one_is(self):
        source = random.Random(105)
        told = set()
        for net in SOME:
            for renaming in renamings(net)[:6]:
                asked = [unknown_of(net[1], unknown) for unknown in range(net[1])]
                for one in asked + [some_polynomial(source, net[1], 2)]:
                    mine, yours = knowledge(net, one), knowledge(net, led_polynomial(net, renaming, one))
                    self.assertEqual(mine[0], yours[0])
                    told.add(mine[0])
        self.assertEqual(told, {"known", "free"})

    def test_the_degree(self):
        self.assertEqual(led_polynomial(TWINS, SWAP, power(4, 0)), power(0, 4))
        wrong = power(4, 1)
        self.raises(InvalidPolynomial, "given", wrong, led_polynomial, TWINS, SWAP, wrong)

    def test_wrong_arguments(self):
        wrong = tuple(
            (2, value, InvalidPolynomial, "given", value)
            for value in (None, [], list(X), Y + X, (((1,), ONE),), (((1, 0), NIL),), power(5, 0), Prickly())
        )
        names = ("net", "renaming", "polynomial")
        self.all_wrong(led_polynomial, names, (TWINS, SWAP, X), WRONG_NETS + NOT_TOLD + wrong)
        for thing in THINGS:
            self.raises(InvalidPolynomial, "given", thing, led_polynomial, TWINS, SWAP, thing)
            self.raises(InvalidRenaming, "given", thing, led_polynomial, TWINS, thing, thing)


if __name__ == "__main__":
    unittest.main()
