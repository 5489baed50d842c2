"""Points 2 and 7 to 11: nets, tables, runs, looks, what is alike, and kept sums."""

import random
import unittest
from fractions import Fraction

from hiddenrates.errors import InvalidAssignment, InvalidFillings, InvalidNet, InvalidNumber
from hiddenrates.nets import are_alike, is_net, kept_sums, looks_in, parting, seen_in, table_of
from samples import BARE, CHAIN, HALF, NETS, NIL, ONE, PAIR, RING, THINGS, THIRD, WIDE, Told, fraction, nested, pair

# All pipes between four tanks, twelve of them.
TWELVE = tuple((start, end, HALF) for start in range(4) for end in range(4) if start != end)


def net_with(many=2, unknowns=2, pipes=(), filled=(0,), seen=(0,)):
    return (many, unknowns, pipes, filled, seen)


def piped(*pipe):
    return net_with(pipes=(pipe,))


def by_hand(net, assignment, fillings):
    """What is seen, each pipe followed by itself."""
    many, _, pipes, filled, seen = net
    held = [Fraction(0)] * many
    rows = []
    for filling in fillings + (None,):
        rows.append(tuple(pair(held[tank]) for tank in seen))
        after = list(held)
        for start, end, share in pipes:
            size = fraction(assignment[share[1]] if share[0] == "x" else share)
            after[start] -= size * held[start]
            if end is not None:
                after[end] += size * held[start]
        for tank, amount in zip(filled, filling or ()):
            after[tank] += fraction(amount)
        held = after
    return tuple(rows)


def some_share(source):
    return pair(Fraction(source.choice((-3, -1, 0, 0, 1, 1, 2, 5)), source.choice((1, 2, 3, 7))))


def some_net(source):
    many = source.randrange(1, 5)
    unknowns = source.randrange(0, min(4, 7 - many) + 1)
    pipes = []
    for _ in range(source.randrange(0, 8)):
        start = source.randrange(many)
        end = source.choice([tank for tank in range(many) if tank != start] + [None])
        share = some_share(source)
        if unknowns and source.randrange(3):
            share = ("x", source.randrange(unknowns))
        if (start, end, share) not in pipes:
            pipes.append((start, end, share))
    filled = tuple(sorted(source.sample(range(many), source.randrange(1, many + 1))))
    seen = tuple(sorted(source.sample(range(many), source.randrange(1, many + 1))))
    return (many, unknowns, tuple(pipes), filled, seen)


def some_nets(seed, count):
    source = random.Random(seed)
    for _ in range(count):
        net = some_net(source)
        yield source, net, tuple(some_share(source) for _ in range(net[1]))


class Examples(unittest.TestCase):
    def test_as_they_stand(self):
        nil, one, half, third = (0, 1), (1, 1), (1, 2), (1, 3)
        pair = (2, 2, ((0, 1, ("x", 0)), (1, 0, ("x", 1)), (1, None, half)), (0,), (0,))
        self.assertEqual(
            [
                is_net(pair),
                is_net((2, 0, ((0, 0, half),), (0,), (0,))),
                is_net((1, 1, ((0, None, ("x", 1)),), (0,), (0,))),
            ],
            [True, False, False],
        )
        self.assertEqual(table_of(pair, (half, third)), (((1, 2), (1, 3)), ((1, 2), (1, 6))))
        self.assertEqual(
            [seen_in(pair, (half, third), ((one,), (nil,), ((2, 1),))), looks_in(pair, (half, third), 3)],
            [(((0, 1),), ((1, 1),), ((1, 2),), ((29, 12),)), ((((1, 1),),), (((1, 2),),), (((5, 12),),))],
        )
        self.assertEqual(
            [
                are_alike(pair, (half, third), (half, third)),
                parting(pair, (half, third), (half, half)),
                parting(pair, (half, third), (third, half)),
                kept_sums(pair),
            ],
            [True, (2, 0, 0), (1, 0, 0), ()],
        )
        ring = (3, 1, ((0, 1, ("x", 0)), (1, 2, ("x", 0)), (2, None, nil)), (0,), (2,))
        self.assertEqual(
            [kept_sums(ring), parting(ring, (half,), (third,))],
            [(((1, 1), (1, 1), (1, 1)),), (2, 2, 0)],
        )


class IsNet(unittest.TestCase):
    def yes(self, *nets):
        for net in nets:
            self.assertIs(is_net(net), True, net)

    def no(self, *nets):
        for net in nets:
            self.assertIs(is_net(net), False, net)

    def test_samples(self):
        self.yes(*NETS)

    def test_tanks(self):
        self.yes(*[net_with(many=many) for many in (1, 2, 3, 4)])
        self.no(*[net_with(many=many) for many in (0, -1, 5, 100, True, None, "2", (2,), [2])])

    def test_unknowns(self):
        self.yes(*[net_with(unknowns=unknowns) for unknowns in (0, 1, 2, 3, 4)])
        self.no(*[net_with(unknowns=unknowns) for unknowns in (-1, 5, 100, True, False, None, "2", (2,), [2])])

    def test_both_together(self):
        self.yes(net_with(4, 3), net_with(3, 4), net_with(4, 0), net_with(1, 4))
        self.no(net_with(4, 4))

    def test_how_many_pipes(self):
        more = ((0, None, HALF),)
        self.yes(net_with(many=4, pipes=TWELVE), net_with(many=4, pipes=TWELVE[1:] + more))
        self.no(net_with(many=4, pipes=TWELVE + more), net_with(many=4, pipes=TWELVE * 2))

    def test_ends_of_pipes(self):
        self.yes(piped(0, 1, HALF), piped(1, 0, HALF), piped(0, None, HALF), piped(1, None, ("x", 1)))
        self.no(piped(0, 0, HALF), piped(1, 1, ("x", 0)), piped(2, 0, HALF), piped(0, 2, HALF))
        self.no(piped(-1, 0, HALF), piped(0, -1, HALF), piped(None, 0, HALF), piped(None, None, HALF))
        self.no(piped(False, 1, HALF), piped(0, True, HALF), piped(True, 0, HALF), piped(1, False, HALF))
        self.no(piped("0", 1, HALF), piped(0, "out", HALF), piped(0, (1,), HALF), piped((0,), 1, HALF))

    def test_pipes_are_tuples_of_three(self):
        self.no(piped(0, 1), piped(0, 1, HALF, HALF), piped(), net_with(pipes=([0, 1, HALF],)))
        self.no(net_with(pipes=[]), net_with(pipes=[(0, 1, HALF)]), net_with(pipes=None), net_with(pipes=(0, 1, HALF)))
        self.no(net_with(pipes="01"), net_with(pipes={}), net_with(pipes=(None,)), net_with(pipes=("abc",)))

    def test_unknown_shares(self):
        self.yes(piped(0, 1, ("x", 0)), piped(0, 1, ("x", 1)))
        self.no(piped(0, 1, ("x", 2)), piped(0, 1, ("x", -1)), piped(0, 1, ("x", True)), piped(0, 1, ("x", False)))
        self.no(piped(0, 1, ("y", 0)), piped(0, 1, ("x",)), piped(0, 1, ("x", 0, 0)), piped(0, 1, ["x", 0]))
        self.no(piped(0, 1, ("xx", 0)), piped(0, 1, ("", 0)), piped(0, 1, "x0"), piped(0, 1, (b"x", 0)))
        self.no(piped(0, 1, ("x", None)), piped(0, 1, ("x", "0")), piped(0, 1, (0, "x")), piped(0, 1, (("x",), 0)))
        self.no(net_with(unknowns=0, pipes=((0, 1, ("x", 0)),)), net_with(unknowns=1, pipes=((0, 1, ("x", 1)),)))
        self.yes(net_with(many=3, unknowns=4, pipes=((0, 1, ("x", 3)), (1, 2, ("x", 3)))))

    def test_told_shares(self):
        told = ((0, 1), (1, 1), (-1, 1), (999, 1), (-999, 1), (1, 999), (998, 999), (-998, 999), (999, 998), (5, 4))
        self.yes(*[piped(0, 1, share) for share in told])
        wrong = ((1000, 1), (-1000, 1), (1, 1000), (999, 1000), (2, 4), (0, 2), (0, 999), (3, 3), (-2, 4))
        self.no(*[piped(0, 1, share) for share in wrong])
        wrong = ((1, 0), (0, 0), (1, -2), (-1, -2), (1,), (), (1, 2, 3), [1, 2], 1, None, "1/2", (True, 2))
        self.no(*[piped(0, 1, share) for share in wrong])
        wrong = ((1, True), (False, True), (None, 1), (1, None), ("1", 2), ((1,), 2))
        self.no(*[piped(0, 1, share) for share in wrong])

    def test_pipes_are_unlike(self):
        first, second = (0, 1, HALF), (0, 1, ("x", 0))
        self.no(net_with(pipes=(first, first)), net_with(pipes=(second, second)))
        self.no(net_with(pipes=(first, second, first)), net_with(pipes=((1, 0, HALF), second, first, second)))
        self.yes(net_with(pipes=(first, second)), net_with(pipes=(first, (0, 1, THIRD))))
        self.yes(net_with(pipes=(first, (1, 0, HALF), (0, None, HALF), (1, None, HALF), (0, 1, ("x", 1)), second)))

    def test_filled_and_seen(self):
        for place in (3, 4):
            def told(tanks, many=4, place=place):
                net = list(net_with(many=many))
                net[place] = tanks
                return tuple(net)

            self.yes(*[told(tanks) for tanks in ((0,), (3,), (0, 1), (1, 3), (0, 2, 3), (0, 1, 2, 3))])
            self.no(*[told(tanks) for tanks in ((), (0, 0), (1, 0), (4,), (-1,), (0, 4), (-1, 0), (0, 2, 1))])
            self.no(*[told(tanks) for tanks in ([0], [], 0, None, "0", {0: 0}, (True,), (False,), (0, True), (None,))])
            self.no(*[told(tanks) for tanks in ((0, 1, 1), (0, 1, 2, 3, 3), (0, 1, 2, 3, 4))])
            self.no(*[told(tanks) for tanks in (("0",), ((0,),), ((),), ([],))])
            self.no(told((1,), many=1), told((0, 1), many=1))

    def test_five_parts_in_a_tuple(self):
        self.no(list(PAIR), PAIR[:4], PAIR + ((0,),), (), (PAIR,), PAIR[::-1], None, "")

    def test_anything(self):
        self.no(*THINGS)
        for thing in THINGS:
            for place in range(5):
                net = list(BARE)
                net[place] = thing
                self.assertIs(is_net(tuple(net)), False)
            for place in range(3):
                pipe = [0, 1, HALF]
                pipe[place] = thing
                self.assertIs(is_net(piped(*pipe)), place == 1 and thing is None)
            for share in (("x", thing), (1, thing), (thing, thing), ("x", 0, thing)):
                self.assertIs(is_net(piped(0, 1, share)), False)
            self.assertIs(is_net(piped(0, 1, (thing, 0))), type(thing) is str and thing == "x")
            self.no(net_with(pipes=(thing,)), net_with(filled=(thing,)), net_with(seen=(0, thing)))

    def test_deep_ones(self):
        for depth in range(21):
            self.no(nested(depth, 0), nested(depth + 1, PAIR) if depth < 15 else ())


class Tables(Told):
    def test_by_hand(self):
        self.assertEqual(table_of(BARE, ()), ((ONE,),))
        self.assertEqual(table_of(RING, (THIRD,)), (((2, 3), NIL, NIL), (THIRD, (2, 3), NIL), (NIL, THIRD, ONE)))

    def test_several_pipes_of_one_tank(self):
        pipes = ((0, 1, ("x", 0)), (0, 1, HALF), (0, None, THIRD), (1, 0, ("x", 0)), (1, None, ("x", 1)))
        table = table_of((2, 2, pipes, (0,), (0,)), ((1, 4), (1, 5)))
        self.assertEqual(table, (((-1, 12), (1, 4)), ((3, 4), (11, 20))))

    def test_shares_of_nought_below_nought_and_above_one(self):
        net = (2, 1, ((0, 1, ("x", 0)),), (0,), (0,))
        self.assertEqual(table_of(net, (NIL,)), ((ONE, NIL), (NIL, ONE)))
        self.assertEqual(table_of(net, ((-1, 2),)), (((3, 2), NIL), ((-1, 2), ONE)))
        self.assertEqual(table_of(net, ((5, 2),)), (((-3, 2), NIL), ((5, 2), ONE)))
        net = (2, 1, ((0, 1, ("x", 0)), (0, None, (3, 4))), (0,), (0,))
        self.assertEqual(table_of(net, ((1, 2),)), (((-1, 4), NIL), ((1, 2), ONE)))
        # What two pipes send may be nothing at all.
        net = (2, 1, ((0, 1, ("x", 0)), (0, 1, (3, 4))), (0,), (0,))
        self.assertEqual(table_of(net, ((-3, 4),)), ((ONE, NIL), (NIL, ONE)))

    def test_columns_of_what_loses_nothing_add_up_to_one(self):
        for _, net, assignment in some_nets(1, 60):
            table = table_of(net, assignment)
            for column in range(net[0]):
                lost = sum(
                    fraction(assignment[share[1]] if share[0] == "x" else share)
                    for start, end, share in net[2]
                    if start == column and end is None
                )
                self.assertEqual(sum(fraction(row[column]) for row in table), 1 - lost)

    def test_wrong_arguments(self):
        wrong = [(0, thing, InvalidNet, "given", thing) for thing in (None, [], list(PAIR), PAIR[:4], 1, THINGS[17])]
        wrong += [(1, value, InvalidAssignment, "index", told) for value, told in WRONG_ASSIGNMENTS]
        self.all_wrong(table_of, ("net", "assignment"), (PAIR, (HALF, THIRD)), wrong)
        for thing in THINGS:
            self.raises(InvalidNet, "given", thing, table_of, thing, thing)
            if type(thing) is not tuple or len(thing) != 2:
                self.raises(InvalidAssignment, "index", None, table_of, PAIR, thing)
            else:
                self.raises(InvalidAssignment, "index", 0, table_of, PAIR, thing)
            self.raises(InvalidAssignment, "index", 1, table_of, PAIR, (HALF, thing))

    def test_assignment_where_there_are_no_unknowns(self):
        self.raises(InvalidAssignment, "index", None, table_of, BARE, (HALF,))
        self.raises(InvalidAssignment, "index", None, table_of, BARE, [])
        self.raises(InvalidAssignment, "index", None, table_of, BARE, None)


WRONG_ASSIGNMENTS = (
    (None, None),
    (HALF, 0),
    ((HALF,), None),
    ((HALF, HALF, HALF), None),
    ([HALF, HALF], None),
    (("x", "x"), 0),
    ((HALF, (2, 4)), 1),
    ((HALF, (1000, 1)), 1),
    (((-1000, 1), HALF), 0),
    ((HALF, (1, 1000)), 1),
    ((HALF, [1, 2]), 1),
    ((HALF, (True, True)), 1),
    ((HALF, 1), 1),
    ((HALF, (1, 0)), 1),
    (((1, -2), (2, 4)), 0),
)
WRONG_FILLINGS = (
    (None, None),
    ([], None),
    ("", None),
    (((ONE,),) * 31, None),
    ((None,) * 31, None),
    ((ONE,), 0),
    (((ONE,), ()), 1),
    (((ONE,), (ONE, ONE)), 1),
    (((ONE,), [ONE]), 1),
    (((ONE,), None, (ONE,), None), 1),
    (((ONE,), (ONE,), ((2, 2),)), 2),
    (((ONE,), ((1000, 1),)), 1),
    (((ONE,), ((1, 1000),)), 1),
    (((ONE,), ((True, 1),)), 1),
    (((ONE,), (1,)), 1),
    (((ONE,),) * 29 + ((NIL, NIL),), 29),
)


class Runs(Told):
    def test_no_filling(self):
        self.assertEqual(seen_in(PAIR, (HALF, THIRD), ()), ((NIL,),))
        self.assertEqual(seen_in(WIDE, (HALF,) * 4, ()), ((NIL, NIL, NIL),))

    def test_thirty_fillings_and_no_more(self):
        told = seen_in(BARE, (), ((ONE,),) * 30)
        self.assertEqual(told, tuple(((beat, 1),) for beat in range(31)))
        self.raises(InvalidFillings, "index", None, seen_in, BARE, (), ((ONE,),) * 31)

    def test_first_seen_then_sent_then_filled(self):
        # All goes on at once, but not what has come at this very beat.
        net = (2, 0, ((0, 1, ONE), (1, None, ONE)), (0,), (0, 1))
        told = seen_in(net, (), ((ONE,), ((2, 1),), (NIL,), (NIL,)))
        self.assertEqual(told, ((NIL, NIL), (ONE, NIL), ((2, 1), ONE), (NIL, (2, 1)), (NIL, NIL)))

    def test_all_tanks_send_at_once(self):
        net = (2, 0, ((0, 1, ONE), (1, 0, ONE)), (0, 1), (0, 1))
        told = seen_in(net, (), ((ONE, (2, 1)), (NIL, NIL), (NIL, NIL)))
        self.assertEqual(told, ((NIL, NIL), (ONE, (2, 1)), ((2, 1), ONE), (ONE, (2, 1))))

    def test_several_filled_and_seen(self):
        net = (2, 1, ((0, 1, ("x", 0)),), (0, 1), (0, 1))
        told = seen_in(net, ((-1, 2),), ((ONE, (2, 1)), (NIL, HALF)))
        self.assertEqual(told, ((NIL, NIL), (ONE, (2, 1)), ((3, 2), (2, 1))))

    def test_tanks_keep_their_places(self):
        net = (3, 0, ((1, 0, HALF),), (1, 2), (0, 2))
        told = seen_in(net, (), ((ONE, (5, 1)), (NIL, (-1, 1))))
        self.assertEqual(told, ((NIL, NIL), (NIL, (5, 1)), (HALF, (4, 1))))

    def test_above_one_in_all(self):
        net = (1, 1, ((0, None, ("x", 0)), (0, None, ONE)), (0,), (0,))
        told = seen_in(net, ((3, 2),), ((ONE,), (NIL,), (NIL,)))
        self.assertEqual(told, ((NIL,), (ONE,), ((-3, 2),), ((9, 4),)))

    def test_by_following_each_pipe(self):
        for source, net, assignment in some_nets(2, 80):
            fillings = tuple(tuple(some_share(source) for _ in net[3]) for _ in range(source.randrange(0, 7)))
            self.assertEqual(seen_in(net, assignment, fillings), by_hand(net, assignment, fillings))

    def test_what_is_seen_is_the_sum_over_fillings_times_looks(self):
        for source, net, assignment in some_nets(3, 60):
            fillings = tuple(tuple(some_share(source) for _ in net[3]) for _ in range(6))
            looks = looks_in(net, assignment, 6)
            for beat, row in enumerate(seen_in(net, assignment, fillings)):
                for place, told in enumerate(row):
                    total = sum(
                        fraction(fillings[ahead][column]) * fraction(looks[beat - ahead - 1][place][column])
                        for ahead in range(beat)
                        for column in range(len(net[3]))
                    )
                    self.assertEqual(told, pair(total))

    def test_wrong_arguments(self):
        wrong = [(0, thing, InvalidNet, "given", thing) for thing in (None, list(PAIR))]
        wrong += [(1, value, InvalidAssignment, "index", told) for value, told in WRONG_ASSIGNMENTS]
        wrong += [(2, value, InvalidFillings, "index", told) for value, told in WRONG_FILLINGS]
        names = ("net", "assignment", "fillings")
        self.all_wrong(seen_in, names, (PAIR, (HALF, THIRD), ((ONE,), (NIL,))), wrong)
        for thing in THINGS:
            if type(thing) is tuple and thing != ():
                self.raises(InvalidFillings, "index", 0, seen_in, PAIR, (HALF, THIRD), thing)
            else:
                self.raises(InvalidFillings, "index", None, seen_in, PAIR, (HALF, THIRD), thing)
            self.raises(InvalidFillings, "index", 1, seen_in, PAIR, (HALF, THIRD), ((ONE,), thing))
            self.raises(InvalidFillings, "index", 1, seen_in, PAIR, (HALF, THIRD), ((ONE,), (thing,)))


class Looks(Told):
    def test_by_hand(self):
        net = (2, 1, ((0, 1, ("x", 0)),), (0, 1), (0, 1))
        told = looks_in(net, (HALF,), 3)
        self.assertEqual(told, (((ONE, NIL), (NIL, ONE)), ((HALF, NIL), (HALF, ONE)), (((1, 4), NIL), ((3, 4), ONE))))

    def test_rows_are_seen_ones_and_columns_filled_ones(self):
        net = (3, 1, ((0, 1, ("x", 0)), (2, 1, (1, 5))), (0, 2), (1,))
        self.assertEqual(looks_in(net, (HALF,), 2), (((NIL, NIL),), ((HALF, (1, 5)),)))
        net = (3, 1, ((0, 1, ("x", 0)), (2, 1, (1, 5))), (0,), (1, 2))
        self.assertEqual(looks_in(net, (HALF,), 2), (((NIL,), (NIL,)), ((HALF,), (NIL,))))

    def test_bounds_of_many(self):
        self.assertEqual(looks_in(PAIR, (HALF, THIRD), 0), ())
        self.assertEqual(looks_in(PAIR, (HALF, THIRD), 1), (((ONE,),),))
        told = looks_in((1, 1, ((0, None, ("x", 0)),), (0,), (0,)), (HALF,), 20)
        self.assertEqual(told, tuple((((1, 2 ** power),),) for power in range(20)))

    def test_looks_are_what_is_seen_of_one_filled_in(self):
        for _, net, assignment in some_nets(4, 60):
            looks = looks_in(net, assignment, 20)
            for column in range(len(net[3])):
                first = tuple(ONE if place == column else NIL for place in range(len(net[3])))
                rest = ((NIL,) * len(net[3]),) * 19
                seen = by_hand(net, assignment, (first,) + rest)
                for power in range(20):
                    self.assertEqual(tuple(row[column] for row in looks[power]), seen[power + 1])

    def test_wrong_arguments(self):
        wrong = [(0, thing, InvalidNet, "given", thing) for thing in (None, (), 5, PAIR[:4])]
        wrong += [(1, value, InvalidAssignment, "index", told) for value, told in WRONG_ASSIGNMENTS]
        for value in (-1, 21, 100, None, True, False, "1", (1,), [1], 10 ** 399):
            wrong.append((2, value, InvalidNumber, "given", value))
        self.all_wrong(looks_in, ("net", "assignment", "many"), (PAIR, (HALF, THIRD), 3), wrong)
        for thing in THINGS:
            self.raises(InvalidNumber, "given", thing, looks_in, PAIR, (HALF, THIRD), thing)


def late_net(many):
    """A ring of MANY tanks whose last one sends x0 on and lets x1 out.

    While the sum of both stays, x0 shows first when what is seen at the last tank has gone round once:
    behind 2 MANY - 1 steps.
    """
    pipes = tuple((tank, tank + 1, HALF) for tank in range(many - 1))
    return (many, 2, pipes + ((many - 1, 0, ("x", 0)), (many - 1, None, ("x", 1))), (0,), (many - 1,))


class Partings(Told):
    def test_alike_though_unlike(self):
        self.assertIs(are_alike(CHAIN, (HALF, THIRD), (THIRD, HALF)), True)
        self.assertIsNone(parting(CHAIN, (HALF, THIRD), (THIRD, HALF)))
        self.assertIs(are_alike(CHAIN, (HALF, THIRD), (HALF, HALF)), False)
        out = (1, 2, ((0, None, ("x", 0)), (0, None, ("x", 1))), (0,), (0,))
        self.assertIs(are_alike(out, (HALF, THIRD), ((5, 6), NIL)), True)
        self.assertIs(are_alike(out, (HALF, THIRD), ((5, 6), ONE)), False)

    def test_unknowns_that_nothing_shows(self):
        for net in ((2, 1, (), (0,), (0,)), (2, 1, ((1, None, ("x", 0)),), (0,), (0, 1))):
            self.assertIs(are_alike(net, (HALF,), ((-7, 3),)), True)
        self.assertIs(are_alike((2, 1, ((1, None, ("x", 0)),), (1,), (0,)), (HALF,), (NIL,)), True)
        self.assertEqual(parting((2, 1, ((1, None, ("x", 0)),), (0, 1), (0, 1)), (HALF,), (NIL,)), (1, 1, 1))

    def test_an_assignment_is_alike_itself(self):
        for _, net, assignment in some_nets(5, 40):
            self.assertIs(are_alike(net, assignment, assignment), True)
            self.assertIsNone(parting(net, assignment, assignment))
        self.assertIs(are_alike(BARE, (), ()), True)

    def test_first_by_power_then_seen_then_filled(self):
        net = (3, 1, ((0, 1, ("x", 0)), (2, 1, ("x", 0))), (0, 2), (1, 2))
        self.assertEqual(parting(net, (HALF,), (NIL,)), (1, 1, 0))
        net = (3, 1, ((2, 1, ("x", 0)),), (0, 2), (0, 1, 2))
        self.assertEqual(parting(net, (HALF,), (NIL,)), (1, 1, 2))
        net = (3, 2, ((0, 1, ("x", 0)), (2, 0, ("x", 1))), (0, 2), (0, 1))
        self.assertEqual(parting(net, (HALF, HALF), (HALF, NIL)), (1, 0, 2))
        self.assertEqual(parting(net, (HALF, HALF), (NIL, NIL)), (1, 0, 0))
        net = (3, 1, ((0, 1, ("x", 0)), (1, 2, ONE)), (0,), (2,))
        self.assertEqual(parting(net, (HALF,), (NIL,)), (2, 2, 0))

    def test_such_as_part_late(self):
        for many in (1, 2, 3, 4):
            net = late_net(many)
            one, other = (HALF, NIL), (NIL, HALF)
            if many == 1:
                net, one, other = (1, 1, ((0, None, ("x", 0)),), (0,), (0,)), (HALF,), (NIL,)
            told = (2 * many - 1, many - 1, 0)
            self.assertEqual(parting(net, one, other), told)
            self.assertEqual(parting(net, other, one), told)
            self.assertIs(are_alike(net, one, other), False)
            self.assertIs(are_alike(net, other, one), False)
            ahead = 2 * many - 1
            self.assertEqual(looks_in(net, one, ahead), looks_in(net, other, ahead))
            self.assertNotEqual(looks_in(net, one, ahead + 1), looks_in(net, other, ahead + 1))

    def test_alike_for_ever_or_parted_by_a_filling(self):
        alike = 0
        for source, net, one in some_nets(6, 200):
            other = list(one)
            source.shuffle(other)
            for other in (tuple(other), tuple(some_share(source) for _ in one)):
                told = parting(net, one, other)
                self.assertEqual(told, parting(net, other, one))
                self.assertIs(are_alike(net, one, other), told is None)
                if told is None:
                    alike += one != other
                    self.assertEqual(looks_in(net, one, 20), looks_in(net, other, 20))
                    fillings = tuple(tuple(some_share(source) for _ in net[3]) for _ in range(12))
                    self.assertEqual(seen_in(net, one, fillings), seen_in(net, other, fillings))
                else:
                    self.parted_by_its_look(net, one, other, told)
        self.assertGreater(alike, 10)

    def parted_by_its_look(self, net, one, other, told):
        """1 filled into one tank parts both, just behind as many steps as told, at the told tank first."""
        power, seen, filled = told
        self.assertLess(power, 2 * net[0])
        first = tuple(ONE if tank == filled else NIL for tank in net[3])
        fillings = (first,) + ((NIL,) * len(net[3]),) * power
        mine, yours = by_hand(net, one, fillings), by_hand(net, other, fillings)
        self.assertEqual(mine[:-1], yours[:-1])
        place = net[4].index(seen)
        self.assertEqual(mine[-1][:place], yours[-1][:place])
        self.assertNotEqual(mine[-1][place], yours[-1][place])

    def test_wrong_arguments(self):
        wrong = [(0, thing, InvalidNet, "given", thing) for thing in (None, (), "", PAIR[:4])]
        wrong += [(1, value, InvalidAssignment, "index", told) for value, told in WRONG_ASSIGNMENTS]
        wrong += [(2, value, InvalidAssignment, "index", told) for value, told in WRONG_ASSIGNMENTS]
        for function in (are_alike, parting):
            self.all_wrong(function, ("net", "one", "other"), (PAIR, (HALF, THIRD), (HALF, HALF)), wrong)
            for thing in THINGS:
                self.raises(InvalidNet, "given", thing, function, thing, None, None)
                self.raises(InvalidAssignment, "index", 0, function, PAIR, (thing, thing), (thing,))
                self.raises(InvalidAssignment, "index", 1, function, PAIR, (HALF, HALF), (HALF, thing))


def is_kept(net, row):
    """Whether ROW fulfils the sums of point 11, told in Python's own fractions."""
    worth = [fraction(entry) for entry in row]
    for tank in range(net[0]):
        for unknown in range(net[1]):
            total = sum(
                (0 if end is None else worth[end]) - worth[tank]
                for start, end, share in net[2]
                if start == tank and share == ("x", unknown)
            )
            if total != 0:
                return False
        total = sum(
            fraction(share) * ((0 if end is None else worth[end]) - worth[tank])
            for start, end, share in net[2]
            if start == tank and share[0] != "x"
        )
        if total != 0:
            return False
    return True


def rank_of(rows):
    """How many of the rows do not hang together."""
    left, rank = [list(row) for row in rows], 0
    while left:
        row = left.pop()
        places = [place for place, entry in enumerate(row) if entry != 0]
        if places:
            rank += 1
            place = places[0]
            for other in left:
                factor = other[place] / row[place]
                for column, entry in enumerate(row):
                    other[column] -= factor * entry
    return rank


def many_kept(net):
    """How many rows the basis has: as many as tanks, less the rank of the told sums."""
    rows = []
    for tank in range(net[0]):
        for key in list(range(net[1])) + [None]:
            row = [Fraction(0)] * net[0]
            for start, end, share in net[2]:
                if start == tank and (share == ("x", key) or (key is None and share[0] != "x")):
                    weight = fraction(share) if key is None else Fraction(1)
                    row[start] -= weight
                    if end is not None:
                        row[end] += weight
            rows.append(row)
    return net[0] - rank_of(rows)


class KeptSums(Told):
    def test_nets_that_lose_nothing(self):
        self.assertEqual(kept_sums(BARE), ((ONE,),))
        self.assertEqual(kept_sums((2, 1, ((0, 1, ("x", 0)),), (0,), (0,))), ((ONE, ONE),))
        self.assertEqual(kept_sums((2, 0, (), (0,), (0,))), ((ONE, NIL), (NIL, ONE)))
        self.assertEqual(kept_sums(CHAIN), ((ONE, ONE, ONE),))

    def test_nets_that_lose(self):
        self.assertEqual(kept_sums((1, 1, ((0, None, ("x", 0)),), (0,), (0,))), ())
        self.assertEqual(kept_sums((1, 0, ((0, None, HALF),), (0,), (0,))), ())
        self.assertEqual(kept_sums((2, 1, ((0, None, ("x", 0)),), (0,), (0,))), ((NIL, ONE),))
        self.assertEqual(kept_sums((2, 1, ((0, 1, ("x", 0)), (1, None, HALF)), (0,), (0,))), ())

    def test_told_shares_of_nought(self):
        self.assertEqual(kept_sums((1, 0, ((0, None, NIL),), (0,), (0,))), ((ONE,),))
        self.assertEqual(kept_sums((2, 0, ((0, 1, NIL), (1, None, NIL)), (0,), (0,))), ((ONE, NIL), (NIL, ONE)))

    def test_told_shares_that_cancel(self):
        # What the one pipe leads out the other one leads in.
        net = (2, 0, ((0, None, HALF), (0, 1, (-1, 2))), (0,), (0,))
        self.assertEqual(kept_sums(net), ((ONE, NIL),))
        net = (2, 0, ((0, None, HALF), (0, 1, HALF)), (0,), (0,))
        self.assertEqual(kept_sums(net), ((ONE, (2, 1)),))

    def test_an_unknown_in_several_pipes(self):
        net = (3, 1, ((0, 1, ("x", 0)), (0, 2, ("x", 0))), (0,), (0,))
        self.assertEqual(kept_sums(net), ((ONE, NIL, (2, 1)), (NIL, ONE, (-1, 1))))
        net = (3, 2, ((0, 1, ("x", 0)), (0, 2, ("x", 1))), (0,), (0,))
        self.assertEqual(kept_sums(net), ((ONE, ONE, ONE),))
        net = (3, 1, ((0, 1, ("x", 0)), (0, None, ("x", 0))), (0,), (0,))
        self.assertEqual(kept_sums(net), ((ONE, (2, 1), NIL), (NIL, NIL, ONE)))
        # An unknown sum and a told one are kept by themselves.
        net = (2, 1, ((0, 1, ("x", 0)), (0, None, HALF)), (0,), (0,))
        self.assertEqual(kept_sums(net), ())

    def test_several_rows(self):
        net = (4, 2, ((0, 2, ("x", 0)), (1, 3, ("x", 1))), (0,), (0,))
        self.assertEqual(kept_sums(net), ((ONE, NIL, ONE, NIL), (NIL, ONE, NIL, ONE)))
        net = (4, 2, ((0, 3, ("x", 0)), (1, None, ("x", 1))), (0,), (0,))
        self.assertEqual(kept_sums(net), ((ONE, NIL, NIL, ONE), (NIL, NIL, ONE, NIL)))

    def test_the_basis_has_its_form_and_its_size(self):
        sizes = set()
        for source, net, _ in some_nets(7, 300):
            basis = kept_sums(net)
            self.assertIs(type(basis), tuple)
            leaders = []
            for row in basis:
                self.assertTrue(is_kept(net, row))
                leaders.append(min(place for place, entry in enumerate(row) if entry != NIL))
                self.assertEqual(row[leaders[-1]], ONE)
            self.assertEqual(leaders, sorted(set(leaders)))
            for row, leader in zip(basis, leaders):
                self.assertTrue(all(row[place] == NIL for place in leaders if place != leader))
            self.assertEqual(len(basis), many_kept(net))
            sizes.add((net[0], len(basis)))
        self.assertGreater(len(sizes), 9)

    def test_kept_when_tanks_send(self):
        for source, net, _ in some_nets(8, 100):
            for row in kept_sums(net):
                for _ in range(3):
                    table = table_of(net, tuple(some_share(source) for _ in range(net[1])))
                    for column in range(net[0]):
                        after = sum(fraction(row[place]) * fraction(table[place][column]) for place in range(net[0]))
                        self.assertEqual(after, fraction(row[column]))

    def test_wrong_arguments(self):
        self.assertEqual(kept_sums(net=CHAIN), ((ONE, ONE, ONE),))
        for thing in THINGS:
            self.raises(InvalidNet, "given", thing, kept_sums, thing)


if __name__ == "__main__":
    unittest.main()
