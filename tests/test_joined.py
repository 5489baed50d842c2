"""Points 28 and 29, with 4 to 6: nets side by side, and one led on into another one."""

import itertools
import random
import unittest

from generic import ASKED, CUP, FULL, GLASS, LOST, MUG, TWINS, UNKNOWING, WRONG_NETS, by_powers, some_nets
from hiddenrates.errors import InvalidNet, InvalidNumber, TooMany
from hiddenrates.joined import led_on, side_by_side
from hiddenrates.knowledge import knowledge, taken_looks
from hiddenrates.looks import look_polynomial, looks_of
from hiddenrates.nets import is_net, looks_in
from hiddenrates.polynomials import unknown_of
from samples import BARE, HALF, NIL, PAIR, RING, THINGS, THIRD, Prickly, Told, fraction
from terms import as_dict, as_terms, product_of, some_polynomial, sum_of

LEAK = (1, 1, ((0, None, ("x", 0)),), (0,), (0,))
# Three pipes go out: with a told share other than 0, with 0, and with an unknown.
OUTLETS = (2, 1, ((0, 1, HALF), (0, None, THIRD), (1, None, NIL), (1, None, ("x", 0)), (1, 0, (-1, 2))), (0,), (0, 1))
NO_NUMBERS = (None, True, False, -1, 9, "0", (0,), [0], Prickly())


def plain_net(many, unknowns, pipes):
    """A net with so many pipes, unlike one another."""
    told = [(0, None, (count, 1)) for count in range(1, pipes + 1)]
    return (many, unknowns, tuple(told), (0,), (0,))


def moved(one, ahead, behind):
    """The polynomial with more unknowns ahead and behind."""
    return tuple(((0,) * ahead + powers + (0,) * behind, factor) for powers, factor in one)


def outlets_of(net):
    """The pipes that may be led on."""
    return [
        index
        for index, (_, end, share) in enumerate(net[2])
        if end is None and share[0] != "x" and share[0] != 0
    ]


def may_join(net, other):
    tanks, unknowns = net[0] + other[0], net[1] + other[1]
    return tanks <= 4 and unknowns <= 4 and tanks + unknowns <= 7 and len(net[2]) + len(other[2]) <= 12


SOME = [net for net in ASKED + (LEAK, OUTLETS) + tuple(some_nets(111, 60)) if net[0] <= 3]
PAIRS = [both for both in itertools.product(SOME, SOME) if may_join(*both)][::7]


def led_pairs():
    """Some nets led on, with the pipe and the tank."""
    for net, other in PAIRS:
        for pipe in outlets_of(net)[:1]:
            for tank in range(other[0]):
                yield net, pipe, other, tank


class Examples(Told):
    def test_as_they_stand(self):
        cup, leak = (1, 0, ((0, None, (1, 2)),), (0,), (0,)), (1, 1, ((0, None, ("x", 0)),), (0,), (0,))
        self.assertEqual(
            [side_by_side(cup, leak), led_on(cup, 0, leak, 0)],
            [
                (2, 1, ((0, None, (1, 2)), (1, None, ('x', 0))), (0, 1), (0, 1)),
                (2, 1, ((0, 1, (1, 2)), (1, None, ('x', 0))), (0,), (0, 1)),
            ],
        )
        self.assertEqual(
            looks_in(led_on(cup, 0, leak, 0), ((1, 4),), 4),
            (
                (((1, 1),), ((0, 1),)),
                (((1, 2),), ((1, 2),)),
                (((1, 4),), ((5, 8),)),
                (((1, 8),), ((19, 32),)),
            ),
        )
        fork = (2, 2, ((0, 1, ("x", 0)), (0, None, ("x", 1))), (0,), (0,))
        self.raises(TooMany, "given", 5, side_by_side, TWINS, fork)


class SideBySide(Told):
    def test_by_hand(self):
        self.assertEqual(
            side_by_side(MUG, OUTLETS),
            (
                4,
                3,
                (
                    (0, 1, ("x", 0)),
                    (0, None, ("x", 1)),
                    (2, 3, HALF),
                    (2, None, THIRD),
                    (3, None, NIL),
                    (3, None, ("x", 2)),
                    (3, 2, (-1, 2)),
                ),
                (0, 2),
                (0, 2, 3),
            ),
        )
        self.assertEqual(side_by_side(BARE, BARE), (2, 0, (), (0, 1), (0, 1)))

    def test_looks_within_one_of_both_and_between_them(self):
        for net, other in PAIRS:
            both = side_by_side(net, other)
            self.assertIs(is_net(both), True)
            many = net[0]
            for look in looks_of(both):
                steps, tank, source = look
                told = look_polynomial(both, look)
                if tank < many and source < many:
                    self.assertEqual(told, moved(by_powers(net, look), 0, other[1]))
                elif tank >= many and source >= many:
                    alone = by_powers(other, (steps, tank - many, source - many))
                    self.assertEqual(told, moved(alone, net[1], 0))
                else:
                    self.assertEqual(told, ())

    def test_what_is_known_in_one_of_both(self):
        source = random.Random(112)
        words = set()
        for net, other in PAIRS:
            both = side_by_side(net, other)
            try:
                rank = len(taken_looks(both))
                self.assertEqual(rank, len(taken_looks(net)) + len(taken_looks(other)))
                for _ in range(2):
                    mine, yours = some_polynomial(source, net[1], 2), some_polynomial(source, other[1], 2)
                    told = knowledge(net, mine)[0]
                    self.assertEqual(knowledge(both, moved(mine, 0, other[1]))[0], told)
                    words.add(told)
                    told = knowledge(other, yours)[0]
                    self.assertEqual(knowledge(both, moved(yours, net[1], 0))[0], told)
            except TooMany:
                continue
        self.assertEqual(words, {"known", "free"})

    def test_too_many(self):
        for tanks, unknowns, pipes, told in (
            ((1, 3), (0, 0), (0, 0), None),
            ((1, 4), (0, 0), (0, 0), 5),
            ((4, 4), (3, 3), (12, 12), 8),
            ((1, 1), (2, 2), (0, 0), None),
            ((1, 1), (2, 3), (0, 0), 5),
            ((1, 2), (2, 3), (12, 12), 5),
            ((2, 2), (1, 2), (0, 0), None),
            ((1, 2), (4, 0), (0, 0), None),
            ((2, 2), (2, 2), (0, 0), 8),
            ((1, 3), (4, 0), (12, 12), 8),
            ((1, 1), (0, 0), (6, 6), None),
            ((1, 1), (0, 0), (6, 7), 13),
            ((1, 3), (1, 2), (12, 12), 24),
            ((1, 1), (0, 0), (12, 0), None),
        ):
            nets = [plain_net(*each) for each in zip(tanks, unknowns, pipes)]
            if told is None:
                self.assertIs(is_net(side_by_side(*nets)), True)
            else:
                self.raises(TooMany, "given", told, side_by_side, *nets)

    def test_wrong_nets(self):
        others = tuple((1,) + wrong[1:] for wrong in WRONG_NETS)
        self.all_wrong(side_by_side, ("net", "other"), (MUG, CUP), WRONG_NETS + others)
        for thing in THINGS:
            self.raises(InvalidNet, "given", thing, side_by_side, thing, thing)
            self.raises(InvalidNet, "given", thing, side_by_side, FULL, thing)


class LedOn(Told):
    def test_by_hand(self):
        self.assertEqual(
            led_on(OUTLETS, 1, MUG, 1),
            (
                4,
                3,
                (
                    (0, 1, HALF),
                    (0, 3, THIRD),
                    (1, None, NIL),
                    (1, None, ("x", 0)),
                    (1, 0, (-1, 2)),
                    (2, 3, ("x", 1)),
                    (2, None, ("x", 2)),
                ),
                (0,),
                (0, 1, 2),
            ),
        )

    def test_as_told(self):
        for net, pipe, other, tank in led_pairs():
            both, told = side_by_side(net, other), led_on(net, pipe, other, tank)
            self.assertIs(is_net(told), True)
            self.assertEqual((told[:2], told[3], told[4]), (both[:2], net[3], both[4]))
            pipes = list(both[2])
            pipes[pipe] = (pipes[pipe][0], net[0] + tank, pipes[pipe][2])
            self.assertEqual(list(told[2]), pipes)

    def test_looks(self):
        for net, pipe, other, tank in led_pairs():
            told = led_on(net, pipe, other, tank)
            start, _, share = net[2][pipe]
            for steps, seen, filled in looks_of(told):
                one = look_polynomial(told, (steps, seen, filled))
                if seen < net[0]:
                    self.assertEqual(one, moved(by_powers(net, (steps, seen, filled)), 0, other[1]))
                else:
                    parts = []
                    for behind in range(steps):
                        here = moved(by_powers(other, (behind, seen - net[0], tank)), net[1], 0)
                        there = moved(by_powers(net, (steps - 1 - behind, start, filled)), 0, other[1])
                        parts.append(product_of(as_dict(here), as_dict(there)))
                    number = {(0,) * told[1]: fraction(share)}
                    self.assertEqual(one, as_terms(product_of(number, sum_of(*parts))))

    def test_what_is_known(self):
        source = random.Random(113)
        words, nought = set(), 0
        for net, pipe, other, tank in led_pairs():
            start = net[2][pipe][0]
            if start not in net[4]:
                continue
            told, fed = led_on(net, pipe, other, tank), other[:3] + ((tank,), other[4])
            reached = any(by_powers(net, (steps, start, filled)) for steps in range(net[0]) for filled in net[3])
            try:
                rank = len(taken_looks(told))
                yours = [unknown_of(other[1], unknown) for unknown in range(other[1])]
                yours.append(some_polynomial(source, other[1], 2))
                if not reached:
                    nought += 1
                    for one in yours[:-1]:
                        self.assertEqual(knowledge(told, moved(one, net[1], 0))[0], "free")
                    continue
                self.assertEqual(rank, len(taken_looks(net)) + len(taken_looks(fed)))
                for one in yours:
                    word = knowledge(fed, one)[0]
                    self.assertEqual(knowledge(told, moved(one, net[1], 0))[0], word)
                    words.add(word)
                mine = some_polynomial(source, net[1], 2)
                self.assertEqual(knowledge(told, moved(mine, 0, other[1]))[0], knowledge(net, mine)[0])
            except TooMany:
                continue
        self.assertEqual(words, {"known", "free"})
        self.assertGreater(nought, 0)

    def test_which_pipes(self):
        for net in (OUTLETS, PAIR, RING, CUP, BARE, MUG, UNKNOWING):
            right = outlets_of(net)
            for pipe in range(-2, 14):
                if pipe in right:
                    self.assertIs(is_net(led_on(net, pipe, BARE, 0)), True)
                else:
                    self.raises(InvalidNumber, "given", pipe, led_on, net, pipe, BARE, 0)
        self.assertEqual([outlets_of(net) for net in (OUTLETS, PAIR, RING, CUP)], [[1], [2], [], []])

    def test_which_tanks(self):
        for other in (BARE, CUP, GLASS):
            for tank in range(-2, 6):
                if 0 <= tank < other[0]:
                    self.assertEqual(led_on(OUTLETS, 1, other, tank)[2][1], (0, 2 + tank, THIRD))
                else:
                    self.raises(InvalidNumber, "given", tank, led_on, OUTLETS, 1, other, tank)

    def test_too_many(self):
        self.raises(TooMany, "given", 5, led_on, PAIR, 2, TWINS, 0)
        self.raises(TooMany, "given", 6, led_on, PAIR, 2, LOST, 3)
        self.raises(TooMany, "given", 8, led_on, PAIR, 2, (2, 2, (), (0,), (0,)), 1)
        self.raises(TooMany, "given", 13, led_on, plain_net(1, 0, 6), 3, plain_net(1, 0, 7), 0)
        self.assertEqual(len(led_on(plain_net(1, 0, 6), 3, plain_net(1, 0, 6), 0)[2]), 12)
        # A wrong number is told ahead of it.
        self.raises(InvalidNumber, "given", 4, led_on, PAIR, 2, LOST, 4)
        self.raises(InvalidNumber, "given", 1, led_on, PAIR, 1, LOST, 0)

    def test_wrong_arguments(self):
        wrong = WRONG_NETS + tuple((2,) + told[1:] for told in WRONG_NETS)
        wrong += tuple((place, value, InvalidNumber, "given", value) for place in (1, 3) for value in NO_NUMBERS)
        wrong += tuple((1, value, InvalidNumber, "given", value) for value in (0, 2, 3, 4, 5))
        wrong = tuple(sorted(wrong, key=lambda told: told[0]))
        self.all_wrong(led_on, ("net", "pipe", "other", "tank"), (OUTLETS, 1, GLASS, 1), wrong)
        for thing in THINGS:
            self.raises(InvalidNet, "given", thing, led_on, thing, thing, thing, thing)
            self.raises(InvalidNumber, "given", thing, led_on, OUTLETS, thing, thing, thing)
            self.raises(InvalidNet, "given", thing, led_on, OUTLETS, 1, thing, thing)
            self.raises(InvalidNumber, "given", thing, led_on, OUTLETS, 1, GLASS, thing)


if __name__ == "__main__":
    unittest.main()
