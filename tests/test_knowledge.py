"""Points 22 to 25, with 4 to 6, 13, 17, 19 and 20: taken looks, columns, minors, fields, known and free."""

import itertools
import random
import unittest

from generic import APART, ASKED, CUP, EIGHT, FOURTEEN, FULL, GLASS, IDLE, LOST, MUG, NINE, TEN, THIRTEEN, TWELVE
from generic import TWINS, UNKNOWING, WRONG_NETS, by_powers, changed_by, not_asked_at, rank_by, slopes_by, some_nets
from generic import taken_by, triples
from hiddenrates.errors import InvalidNet, InvalidPolynomial, TooMany
from hiddenrates.knowledge import columns_of, fields_of, knowledge, minor_of, taken_looks, unknowns_known
from hiddenrates.looks import look_polynomial, looks_of
from hiddenrates.polynomials import is_polynomial, minus, number, plus, times, unknown_of, worth
from hiddenrates.series import change, course, worth_along
from hiddenrates.writings import read_polynomial, show_polynomial
from samples import BARE, CHAIN, HALF, NIL, ONE, PAIR, RING, THINGS, Told, pair
from terms import X, Y, as_dict, as_terms, by_orders, power, product_of, some_fraction, some_polynomial, sum_of

NETS = ASKED + (TWELVE, EIGHT) + tuple(some_nets(81, 60))
OVER = ((THIRTEEN, 13), (FOURTEEN, 14), (NINE, 9), (TEN, 10))


def sum_over(net):
    return sum(look[0] - 1 for look in taken_looks(net))


def bound_of(net):
    return 8 if net[1] == 4 else 12


def asked_of(source, net):
    """Some polynomials that may be asked for: numbers, unknowns, looks, their sums and products, and others."""
    many = net[1]
    told = [(), number(many, HALF)]
    told.extend(unknown_of(many, unknown) for unknown in range(many))
    looks = [look_polynomial(net, look) for look in looks_of(net) if look[0] <= 4]
    low = [look_polynomial(net, look) for look in looks_of(net) if look[0] <= 2]
    told.extend(source.sample(looks, min(3, len(looks))))
    told.append(plus(many, source.choice(looks), source.choice(looks)))
    told.append(times(many, source.choice(low), source.choice(low)))
    told.extend(some_polynomial(source, many, 4) for _ in range(2))
    room = bound_of(net) - sum_over(net)
    return [one for one in told if not one or sum(one[0][0]) <= room]


def minor_by(net, looks, columns):
    """The minor of the looks' slopes in these columns, by all orders."""
    rows = [slopes_by(net[1], by_powers(net, look)) for look in looks]
    if not rows:
        return number(net[1], ONE)
    return as_terms(by_orders(tuple(tuple(as_terms(row[column]) for column in columns) for row in rows)))


class Examples(Told):
    def test_as_they_stand(self):
        x, y = unknown_of(2, 0), unknown_of(2, 1)
        mug = (2, 2, ((0, 1, ("x", 0)), (0, None, ("x", 1))), (0,), (0,))
        self.assertEqual(
            [taken_looks(mug), columns_of(mug), show_polynomial(2, minor_of(mug)), fields_of(mug)],
            [((1, 0, 0),), (0,), "-1", (((((0, 0), (1, 1)),), (((0, 0), (-1, 1)),)),)],
        )
        self.assertEqual(
            [knowledge(mug, x)[0], knowledge(mug, plus(2, x, y))[0], unknowns_known(mug)], ["free", "known", ()]
        )
        glass = (2, 2, ((0, 1, ("x", 0)), (0, None, ("x", 1))), (0,), (0, 1))
        self.assertEqual(
            [
                taken_looks(glass),
                show_polynomial(2, minor_of(glass)),
                fields_of(glass),
                unknowns_known(glass),
                knowledge(glass, x)[0],
            ],
            [((1, 0, 0), (1, 1, 0)), "1", (), (0, 1), "known"],
        )


class Taken(Told):
    def test_by_hand(self):
        self.assertEqual(taken_looks(PAIR), ((1, 0, 0), (2, 0, 0)))
        self.assertEqual(taken_looks(RING), ((2, 2, 0),))
        # The looks of the chain are made of x0 x1 and x0 + x1.
        self.assertEqual((taken_looks(CHAIN), columns_of(CHAIN)), (((2, 2, 0), (3, 2, 0)), (0, 1)))
        self.assertEqual((taken_looks(BARE), columns_of(BARE)), ((), ()))
        self.assertEqual((taken_looks(APART), columns_of(APART)), ((), ()))
        self.assertEqual((taken_looks(LOST), columns_of(LOST)), ((), ()))
        self.assertEqual((taken_looks(UNKNOWING), columns_of(UNKNOWING)), ((), ()))
        self.assertEqual((taken_looks(CUP), columns_of(CUP)), (((1, 0, 0),), (0,)))
        self.assertEqual(columns_of(IDLE), (0, 2))

    def test_against_ranks_at_points(self):
        for net in NETS:
            self.assertEqual((taken_looks(net), columns_of(net)), taken_by(net))

    def test_as_many_as_there_are_unknowns_or_less(self):
        ranks = {(len(taken_looks(net)), net[1]) for net in NETS}
        for unknowns in range(5):
            for rank in range(unknowns + 1):
                self.assertIn((rank, unknowns), ranks)

    def test_no_choice_of_looks_has_more(self):
        source = random.Random(82)
        for net in NETS[:20]:
            rank = len(taken_looks(net))
            looks = looks_of(net)
            for _ in range(3):
                some = source.sample(looks, min(len(looks), net[1]))
                rows = [slopes_by(net[1], by_powers(net, look)) for look in some]
                self.assertLessEqual(rank_by(rows) if net[1] else 0, rank)

    def test_all_slopes_times_the_minor_are_made_of_the_taken_ones(self):
        for net in NETS[:25]:
            if sum_over(net) + 4 <= bound_of(net):
                for look in looks_of(net):
                    one = look_polynomial(net, look)
                    if not one or sum(one[0][0]) <= 4:
                        self.assertEqual(knowledge(net, one)[0], "known")


class Minor(Told):
    def test_by_hand(self):
        self.assertEqual(show_polynomial(2, minor_of(PAIR)), "-x0")
        self.assertEqual(show_polynomial(1, minor_of(RING)), "2 x0")
        for net in (BARE, APART, LOST, UNKNOWING):
            self.assertEqual(minor_of(net), number(net[1], ONE))

    def test_with_its_sign(self):
        for net in NETS:
            taken, columns = taken_by(net)
            self.assertEqual(minor_of(net), minor_by(net, taken, columns))
            self.assertNotEqual(minor_of(net), ())

    def test_the_least_columns(self):
        for net in NETS:
            taken, told = taken_looks(net), columns_of(net)
            self.assertEqual(len(told), len(taken))
            for columns in itertools.combinations(range(net[1]), len(taken)):
                if columns < told:
                    self.assertEqual(minor_by(net, taken, columns), ())

    def test_some_have_a_sign(self):
        signs = {minor_of(net)[0][1][0] > 0 for net in NETS}
        self.assertEqual(signs, {True, False})


class Fields(Told):
    def test_by_hand(self):
        unit, back = number(2, ONE), number(2, (-1, 1))
        self.assertEqual(fields_of(MUG), ((unit, back),))
        self.assertEqual(fields_of(BARE), ())
        self.assertEqual(fields_of(LOST), ((unit, ()), ((), unit)))
        one = number(3, ONE)
        self.assertEqual(fields_of(APART), ((one, (), ()), ((), one, ()), ((), (), one)))

    def test_as_they_are_told(self):
        for net in NETS:
            taken, columns = taken_by(net)
            free = [unknown for unknown in range(net[1]) if unknown not in columns]
            fields = fields_of(net)
            self.assertEqual(len(fields), len(free))
            for unknown, field in zip(free, fields):
                self.assertEqual(len(field), net[1])
                for index, one in enumerate(field):
                    if index in columns:
                        order = [unknown if column == index else column for column in columns]
                        self.assertEqual(one, minus(net[1], (), minor_by(net, taken, order)))
                    else:
                        self.assertEqual(one, minor_of(net) if index == unknown else ())

    def test_no_look_is_changed(self):
        for net in NETS:
            fields = fields_of(net)
            for look in triples(net, 2 * net[0] + 2) if fields else ():
                slopes = slopes_by(net[1], by_powers(net, look))
                for field in fields:
                    self.assertEqual(changed_by(field, slopes), ())

    def test_what_changes_no_look_is_made_of_them(self):
        source = random.Random(83)
        for net in NETS:
            many, fields, columns = net[1], fields_of(net), columns_of(net)
            free = [unknown for unknown in range(many) if unknown not in columns]
            if fields and sum_over(net) <= 4:
                factors = [some_polynomial(source, many, 2) for _ in fields]
                row = [()] * many
                for factor, field in zip(factors, fields):
                    row = [plus(many, one, times(many, factor, two)) for one, two in zip(row, field)]
                # Times D, it is told by what it has at the unknowns that are none of the columns.
                made = [()] * many
                for unknown, field in zip(free, fields):
                    made = [plus(many, one, times(many, row[unknown], two)) for one, two in zip(made, field)]
                self.assertEqual(made, [times(many, minor_of(net), one) for one in row])

    def test_courses_keep_all_looks(self):
        source = random.Random(84)
        for net in NETS[:40]:
            for field in fields_of(net):
                start = tuple(pair(some_fraction(source)) for _ in range(net[1]))
                row = course(net[1], field, start, 3)
                for look in looks_of(net)[:24]:
                    told = worth_along(net[1], look_polynomial(net, look), 3, row)
                    self.assertEqual(told[1:], (NIL,) * 3)


class Knowledge(Told):
    def told_right(self, net, one):
        """What knowledge tells, multiplied out; True if it is known."""
        told = knowledge(net, one)
        self.assertIs(type(told), tuple)
        slopes = slopes_by(net[1], one)
        looks = {look: slopes_by(net[1], by_powers(net, look)) for look in looks_of(net)}
        changing = [field for field in fields_of(net) if changed_by(field, slopes)]
        if told[0] == "free":
            self.assertEqual(told, ("free", changing[0]))
            return False
        word, minor, factors = told
        self.assertEqual((word, minor, changing), ("known", minor_of(net), []))
        self.assertEqual(len(factors), len(looks))
        for look, factor in zip(looks, factors):
            self.assertIs(is_polynomial(net[1], factor), True)
            self.assertTrue(factor == () or look in taken_looks(net))
        for unknown in range(net[1]):
            parts = [product_of(as_dict(factor), looks[look][unknown]) for look, factor in zip(looks, factors)]
            self.assertEqual(as_terms(sum_of(*parts)), as_terms(product_of(as_dict(minor), slopes[unknown])))
        return True

    def test_just_one_of_both(self):
        source = random.Random(85)
        told = set()
        for net in NETS:
            rows = [slopes_by(net[1], by_powers(net, look)) for look in taken_looks(net)]
            for one in asked_of(source, net):
                known = self.told_right(net, one)
                told.add(known)
                more = rows + [slopes_by(net[1], one)]
                self.assertIs(known, net[1] == 0 or rank_by(more) == len(rows))
        self.assertEqual(told, {True, False})

    def test_by_hand(self):
        unit, back = number(2, ONE), number(2, (-1, 1))
        self.assertEqual(knowledge(MUG, X), ("free", (unit, back)))
        self.assertEqual(knowledge(MUG, plus(2, X, Y)), ("known", back, ((), unit, (), ())))
        self.assertEqual(knowledge(MUG, ()), ("known", back, ((),) * 4))
        self.assertEqual(knowledge(MUG, number(2, HALF)), ("known", back, ((),) * 4))
        # The slopes of PAIR's looks at 1 and 2 are (-1, 0) and (2 x0 + x1 - 2, x0); D is -x0.
        factors = ((), tuple(read_polynomial(2, "2 - 2 x0 - x1")), back, ())
        self.assertEqual(knowledge(PAIR, Y), ("known", minus(2, (), X), factors))
        self.assertEqual(knowledge(LOST, Y), ("free", ((), unit)))
        self.assertEqual(knowledge(BARE, number(0, HALF)), ("known", number(0, ONE), ((), ())))

    def test_looks_and_what_is_made_of_them(self):
        for net in (PAIR, CHAIN, RING, MUG, GLASS, TWINS):
            low = [look_polynomial(net, look) for look in looks_of(net) if look[0] <= 2]
            for one, two in itertools.product(low, low):
                self.assertIs(self.told_right(net, plus(net[1], one, two)), True)
                self.assertIs(self.told_right(net, times(net[1], one, two)), True)

    def test_known_though_it_may_be_exchanged(self):
        self.assertEqual(unknowns_known(CHAIN), (0, 1))
        self.assertIs(self.told_right(CHAIN, X), True)
        self.assertIs(self.told_right(CHAIN, Y), True)

    def test_all_is_known_if_as_many_are_taken_as_there_are_unknowns(self):
        source = random.Random(86)
        for net in NETS:
            if len(taken_looks(net)) == net[1] and sum_over(net) + 4 <= bound_of(net):
                self.assertEqual(knowledge(net, some_polynomial(source, net[1], 4))[0], "known")

    def test_what_is_known_stays_where_the_looks_stay(self):
        source = random.Random(87)
        for net in NETS[:40]:
            many = net[1]
            for field in fields_of(net):
                start = tuple(pair(some_fraction(source)) for _ in range(many))
                row = course(many, field, start, 3)
                for one in asked_of(source, net):
                    told = knowledge(net, one)
                    if told[0] == "known":
                        self.assertEqual(worth_along(many, one, 3, row)[1:], (NIL,) * 3)
                    elif told[1] == field:
                        moved = change(many, field, one)
                        self.assertNotEqual(moved, ())
                        self.assertEqual(worth_along(many, one, 3, row)[1], worth(many, moved, start))

    def test_wrong_arguments(self):
        wrong = WRONG_NETS + not_asked_at(1)
        self.all_wrong(knowledge, ("net", "polynomial"), (MUG, Y), wrong)
        for thing in THINGS:
            self.raises(InvalidNet, "given", thing, knowledge, thing, thing)
            self.raises(InvalidPolynomial, "given", thing, knowledge, MUG, thing)

    def test_the_degree(self):
        four, five = power(2, 2), power(3, 2)
        self.assertEqual(knowledge(GLASS, four)[0], "known")
        self.raises(InvalidPolynomial, "given", five, knowledge, GLASS, five)
        self.raises(InvalidPolynomial, "given", five, knowledge, THIRTEEN, five)
        for net in (THIRTEEN, FOURTEEN):
            wrong = power(0, 0, 5)
            self.raises(InvalidPolynomial, "given", wrong, knowledge, net, wrong)


class UnknownsKnown(Told):
    def test_by_hand(self):
        self.assertEqual(unknowns_known(PAIR), (0, 1))
        self.assertEqual(unknowns_known(RING), (0,))
        self.assertEqual(unknowns_known(MUG), ())
        self.assertEqual(unknowns_known(IDLE), (0, 2))
        self.assertEqual(unknowns_known(BARE), ())
        self.assertEqual(unknowns_known(APART), ())
        self.assertEqual(unknowns_known(FULL), (0, 1, 2, 3))

    def test_the_rank_is_not_raised(self):
        some = set()
        for net in NETS:
            rows = [slopes_by(net[1], by_powers(net, look)) for look in taken_looks(net)]
            known = []
            for unknown in range(net[1]):
                more = rows + [slopes_by(net[1], unknown_of(net[1], unknown))]
                if rank_by(more) == len(rows):
                    known.append(unknown)
            self.assertEqual(unknowns_known(net), tuple(known))
            some.add(0 < len(known) < net[1])
        self.assertEqual(some, {True, False})

    def test_as_knowledge_tells(self):
        for net in NETS:
            if sum_over(net) < bound_of(net):
                told = [knowledge(net, unknown_of(net[1], unknown))[0] for unknown in range(net[1])]
                known = tuple(unknown for unknown, word in enumerate(told) if word == "known")
                self.assertEqual(unknowns_known(net), known)


class Bounds(Told):
    ALL = (taken_looks, columns_of, minor_of, fields_of, unknowns_known)

    def test_wrong_nets(self):
        for function in self.ALL:
            self.all_wrong(function, ("net",), (MUG,), WRONG_NETS)
            for thing in THINGS:
                self.raises(InvalidNet, "given", thing, function, thing)

    def test_at_the_bound(self):
        self.assertEqual((sum_over(TWELVE), sum_over(EIGHT)), (12, 8))
        for net in (TWELVE, EIGHT):
            self.assertEqual((taken_looks(net), columns_of(net)), taken_by(net))
            for function in self.ALL:
                function(net)

    def test_above_the_bound(self):
        for net, told in OVER:
            self.assertEqual(sum(look[0] - 1 for look in taken_by(net)[0]), told)
            for function in self.ALL:
                self.raises(TooMany, "given", told, function, net)
            for one in ((), number(net[1], ONE), unknown_of(net[1], 0)):
                self.raises(TooMany, "given", told, knowledge, net, one)

    def test_the_degree_is_counted(self):
        for net in (TWELVE, EIGHT):
            most = bound_of(net)
            many = net[1]
            self.assertEqual(knowledge(net, ())[0], "known")
            self.assertEqual(knowledge(net, number(many, HALF))[0], "known")
            for degree in range(1, 5):
                for unknown in range(many):
                    one = power(*[degree if index == unknown else 0 for index in range(many)])
                    self.raises(TooMany, "given", most + degree, knowledge, net, one)

    def test_just_at_the_bound_with_the_degree(self):
        nets = [net for net in NETS if net[1] and bound_of(net) - 4 <= sum_over(net) < bound_of(net)]
        nets.extend([CHAIN_OF_THREE, AROUND_OF_FOUR])
        self.assertLessEqual({3, 4}, {net[1] for net in nets})
        for net in nets:
            room = bound_of(net) - sum_over(net)
            for degree in range(5):
                one = power(degree, *[0] * (net[1] - 1))
                if degree <= room:
                    self.assertIn(knowledge(net, one)[0], ("known", "free"))
                else:
                    self.raises(TooMany, "given", sum_over(net) + degree, knowledge, net, one)

    def test_with_less_unknowns_the_bound_is_the_greater_one(self):
        self.assertIn(sum_over(CHAIN_OF_THREE), (9, 10, 11))
        self.assertEqual(len(taken_looks(CHAIN_OF_THREE)), 3)


# Sums of 9 with three unknowns, and of 7 with four.
CHAIN_OF_THREE = (4, 3, ((1, 0, ("x", 0)), (0, None, ("x", 1)), (3, 1, ("x", 0)), (2, 3, ("x", 2))), (2,), (0,))
AROUND_OF_FOUR = (
    3,
    4,
    ((1, 2, ("x", 0)), (2, 0, (-1, 2)), (0, 1, ("x", 1)), (0, None, ("x", 1)), (0, 1, ("x", 3))),
    (1,),
    (0,),
)


if __name__ == "__main__":
    unittest.main()
