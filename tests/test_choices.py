"""Point 26, with 4 to 6: nets that show more, more tanks that are seen or filled, and the fewest that are enough."""

import itertools
import random
import unittest

from generic import APART, ASKED, EIGHT, GLASS, MUG, NINE, TEN, THIRTEEN, TWELVE, UNKNOWING, WRONG_NETS
from generic import changed_by, not_asked_at, slopes_by, some_nets
from hiddenrates.choices import fewest, shows_more, wider
from hiddenrates.errors import InvalidChoice, InvalidKind, InvalidNet, InvalidPolynomial, TooMany
from hiddenrates.knowledge import knowledge
from hiddenrates.looks import look_polynomial, looks_of
from hiddenrates.nets import is_net
from hiddenrates.polynomials import number, plus, times, unknown_of
from samples import BARE, CHAIN, HALF, THINGS, Prickly, Told
from terms import X, Y, power, some_polynomial

KINDS = ("seen", "filled")
NO_KINDS = (None, 0, "", "see", "Seen", "seen ", "filled\n", b"seen", ("seen",), ["filled"], True, Prickly())
# Of four tanks 1 and 2 are seen, 0 and 3 are not.
FOUR = (4, 1, ((0, 3, ("x", 0)),), (3,), (1, 2))
SPREAD = (4, 3, ((0, 1, ("x", 0)), (0, 2, ("x", 1)), (0, 3, ("x", 2))), (0,), (0,))
NO_CHOICES = (
    None,
    0,
    "",
    "03",
    [],
    [0],
    (1,),
    (0, 2),
    (3, 0),
    (0, 0),
    (0, 3, 3),
    (4,),
    (-1,),
    (False,),
    (0, None),
    ((0,),),
    (0, "3"),
    (0, 1, 2, 3),
    Prickly(),
    (Prickly(),),
    (0, Prickly()),
)
NO_TOLD = tuple((1, value, InvalidKind, "given", value) for value in NO_KINDS)
NO_CHOSEN = tuple((2, value, InvalidChoice, "given", value) for value in NO_CHOICES)


def choices_by(net, kind):
    """All choices, those with less tanks ahead, then ascending."""
    left = [tank for tank in range(net[0]) if tank not in net[4 if kind == "seen" else 3]]
    for count in range(len(left) + 1):
        yield from itertools.combinations(left, count)


def with_these(net, kind, choice):
    """The net by hand."""
    filled, seen = net[3], net[4]
    if kind == "seen":
        return net[:3] + (filled, tuple(sorted(seen + choice)))
    return net[:3] + (tuple(sorted(filled + choice)), seen)


def fewest_by(net, one, kind):
    """The fewest by all choices; what is raised on the way is let through."""
    for choice in choices_by(net, kind):
        if knowledge(with_these(net, kind, choice), one)[0] == "known":
            return choice
    return None


class Examples(Told):
    def test_as_they_stand(self):
        fork = (2, 2, ((0, 1, ("x", 0)), (0, None, ("x", 1))), (0,), (0,))
        self.assertEqual(
            [
                wider(fork, "seen", (1,)),
                shows_more(wider(fork, "seen", (1,)), fork),
                shows_more(fork, wider(fork, "seen", (1,))),
            ],
            [(2, 2, ((0, 1, ('x', 0)), (0, None, ('x', 1))), (0,), (0, 1)), True, False],
        )
        x, y = unknown_of(2, 0), unknown_of(2, 1)
        self.assertEqual(
            [fewest(fork, x, "seen"), fewest(fork, plus(2, x, y), "seen"), fewest(fork, x, "filled")], [(1,), (), None]
        )


class ShowsMore(Told):
    def test_each_net_itself(self):
        for net in ASKED:
            self.assertIs(shows_more(net, net), True)

    def test_all_tanks_filled_and_seen(self):
        base = (3, 1, ((0, 1, ("x", 0)), (1, 2, HALF)))
        tanks = [choice for count in (1, 2, 3) for choice in itertools.combinations(range(3), count)]
        nets = [base + (filled, seen) for filled in tanks for seen in tanks]
        for net, other in itertools.product(nets, nets):
            told = set(net[3]) >= set(other[3]) and set(net[4]) >= set(other[4])
            self.assertIs(shows_more(net, other), told)

    def test_other_nets(self):
        pipes = MUG[2]
        for other in (
            (3,) + MUG[1:],
            (2, 3) + MUG[2:],
            MUG[:2] + (pipes[::-1],) + MUG[3:],
            MUG[:2] + (pipes[:1],) + MUG[3:],
            MUG[:2] + (pipes + ((1, 0, HALF),),) + MUG[3:],
            MUG[:2] + (((0, 1, ("x", 0)), (0, None, ("x", 0))),) + MUG[3:],
            BARE,
        ):
            self.assertIs(is_net(other), True)
            self.assertIs(shows_more(MUG, other), False)
            self.assertIs(shows_more(other, MUG), False)

    def test_its_looks_are_those_and_more(self):
        for net in ASKED:
            for kind in KINDS:
                for choice in choices_by(net, kind):
                    more = wider(net, kind, choice)
                    self.assertIs(shows_more(more, net), True)
                    self.assertIs(shows_more(net, more), choice == ())
                    looks = looks_of(more)
                    for look in looks_of(net)[:8]:
                        self.assertIn(look, looks)
                        self.assertEqual(look_polynomial(more, look), look_polynomial(net, look))

    def test_what_is_known_and_what_is_free(self):
        source = random.Random(91)
        told = set()
        for net in ASKED + tuple(some_nets(92, 12)):
            one = some_polynomial(source, net[1], 2)
            for kind in KINDS:
                for choice in choices_by(net, kind):
                    less, more = knowledge(net, one), knowledge(wider(net, kind, choice), one)
                    told.add((less[0], more[0]))
                    if more[0] == "free":
                        self.assertEqual(less[0], "free")
                        self.assertNotEqual(changed_by(more[1], slopes_by(net[1], one)), ())
                        for look in looks_of(net)[:16]:
                            slopes = slopes_by(net[1], look_polynomial(net, look))
                            self.assertEqual(changed_by(more[1], slopes), ())
        self.assertEqual(told, {("free", "free"), ("free", "known"), ("known", "known")})

    def test_wrong_nets(self):
        others = tuple((1,) + wrong[1:] for wrong in WRONG_NETS)
        self.all_wrong(shows_more, ("net", "other"), (MUG, GLASS), WRONG_NETS + others)
        for thing in THINGS:
            self.raises(InvalidNet, "given", thing, shows_more, thing, MUG)
            self.raises(InvalidNet, "given", thing, shows_more, MUG, thing)


class Wider(Told):
    def test_by_hand(self):
        self.assertEqual(wider(FOUR, "seen", (0, 3)), FOUR[:3] + ((3,), (0, 1, 2, 3)))
        self.assertEqual(wider(FOUR, "seen", (3,)), FOUR[:3] + ((3,), (1, 2, 3)))
        self.assertEqual(wider(FOUR, "filled", (0, 2)), FOUR[:3] + ((0, 2, 3), (1, 2)))
        self.assertEqual(wider(FOUR, "seen", ()), FOUR)
        self.assertEqual(wider(BARE, "filled", ()), BARE)

    def test_all_choices(self):
        for net in ASKED:
            for kind in KINDS:
                for choice in choices_by(net, kind):
                    told = wider(net, kind, choice)
                    self.assertEqual(told, with_these(net, kind, choice))
                    self.assertIs(is_net(told), True)

    def test_which_are_choices(self):
        for kind in KINDS:
            right = list(choices_by(FOUR, kind))
            for count in range(4):
                for choice in itertools.product(range(-1, 5), repeat=count):
                    if choice in right:
                        wider(FOUR, kind, choice)
                    else:
                        self.raises(InvalidChoice, "given", choice, wider, FOUR, kind, choice)

    def test_wrong_arguments(self):
        self.all_wrong(wider, ("net", "kind", "choice"), (FOUR, "seen", (0, 3)), WRONG_NETS + NO_TOLD + NO_CHOSEN)
        for thing in THINGS:
            self.raises(InvalidNet, "given", thing, wider, thing, thing, thing)
            self.raises(InvalidKind, "given", thing, wider, FOUR, thing, thing)
            self.raises(InvalidChoice, "given", thing, wider, FOUR, "seen", thing)

    def test_what_is_of_the_other_kind_may_be_chosen(self):
        self.assertEqual(wider(MUG, "seen", (1,))[3:], ((0,), (0, 1)))
        self.raises(InvalidChoice, "given", (0,), wider, MUG, "seen", (0,))
        self.assertEqual(wider(FOUR, "seen", (3,))[4], (1, 2, 3))
        self.raises(InvalidChoice, "given", (3,), wider, FOUR, "filled", (3,))


class Fewest(Told):
    def test_by_hand(self):
        self.assertEqual(fewest(CHAIN, X, "seen"), ())
        self.assertEqual(fewest(MUG, power(1, 1), "seen"), (1,))
        self.assertEqual(fewest(APART, power(1, 0, 0), "filled"), (1,))
        self.assertEqual(fewest(APART, power(1, 0, 0), "seen"), None)
        self.assertEqual(fewest(APART, power(0, 1, 0), "filled"), None)
        self.assertEqual(fewest(MUG, (), "filled"), ())
        self.assertEqual(fewest(UNKNOWING, number(0, HALF), "seen"), ())
        # Two tanks have to be seen, too: what goes to each of them, and what stays.
        self.assertEqual(fewest(SPREAD, plus(3, power(1, 0, 0), power(0, 0, 2)), "seen"), (1, 2))
        self.assertEqual(fewest(SPREAD, power(0, 0, 1), "seen"), (3,))
        self.assertEqual(fewest(SPREAD, power(0, 0, 1), "filled"), None)

    def test_against_all_choices(self):
        source = random.Random(93)
        told = []
        for net in ASKED + (SPREAD,) + tuple(some_nets(94, 30)):
            asked = [unknown_of(net[1], unknown) for unknown in range(net[1])]
            asked += [some_polynomial(source, net[1], 2) for _ in range(2)]
            for one in asked:
                for kind in KINDS:
                    try:
                        right = fewest_by(net, one, kind)
                    except TooMany as error:
                        self.raises(TooMany, "given", error.given, fewest, net, one, kind)
                        continue
                    self.assertEqual(fewest(net, one, kind), right)
                    told.append(None if right is None else len(right))
                    everything = with_these(net, kind, list(choices_by(net, kind))[-1])
                    self.assertIs(right is None, knowledge(everything, one)[0] == "free")
        self.assertLessEqual({None, 0, 1, 2}, set(told))

    def test_too_many(self):
        # More seen tanks lessen the sum: it is told as the first choice has it.
        for net, told in ((THIRTEEN, 13), (NINE, 9), (TEN, 10)):
            for kind in KINDS:
                self.raises(TooMany, "given", told, fewest, net, (), kind)
                self.raises(TooMany, "given", told, fewest, net, unknown_of(net[1], 0), kind)
        self.assertEqual(fewest(TWELVE, (), "seen"), ())
        self.raises(TooMany, "given", 13, fewest, TWELVE, power(1, 0, 0), "seen")
        self.raises(TooMany, "given", 10, fewest, EIGHT, power(2, 0, 0, 0), "filled")

    def test_too_many_behind_the_first_choice(self):
        # Tank 2 tells three unknowns more, by looks whose sum is 6; () and (1,) come ahead of it and are not enough.
        late = (3, 4, ((0, 1, ("x", 0)), (1, 2, ("x", 1)), (1, None, ("x", 2)), (2, None, ("x", 3))), (0,), (0,))
        square, cube = power(0, 0, 0, 2), power(0, 0, 0, 3)
        self.assertEqual([knowledge(with_these(late, "seen", choice), cube)[0] for choice in ((), (1,))], ["free"] * 2)
        self.raises(TooMany, "given", 9, knowledge, with_these(late, "seen", (2,)), cube)
        self.assertEqual(fewest(late, square, "seen"), (2,))
        self.raises(TooMany, "given", 9, fewest, late, cube, "seen")
        # What comes behind the one that is told is not asked.
        outflow = power(2, 0, 0, 0)
        self.assertEqual(fewest(late, times(4, outflow, outflow), "seen"), ())

    def test_wrong_arguments(self):
        wrong = tuple((2,) + told[1:] for told in NO_TOLD)
        names = ("net", "polynomial", "kind")
        self.all_wrong(fewest, names, (MUG, Y, "seen"), WRONG_NETS + not_asked_at(1) + wrong)
        for thing in THINGS:
            self.raises(InvalidNet, "given", thing, fewest, thing, thing, thing)
            self.raises(InvalidPolynomial, "given", thing, fewest, MUG, thing, thing)
            self.raises(InvalidKind, "given", thing, fewest, MUG, X, thing)
        # What is raised last comes behind what is wrong.
        self.raises(InvalidKind, "given", "see", fewest, THIRTEEN, (), "see")
        wrong = power(5, 0, 0)
        self.raises(InvalidPolynomial, "given", wrong, fewest, THIRTEEN, wrong, "seen")


if __name__ == "__main__":
    unittest.main()
