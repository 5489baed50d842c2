"""Points 1 to 3: one net is taken through all parts of the program, and all of them tell the same of it."""

import itertools
import random
import unittest

from generic import ASKED, TWELVE, some_nets
from hiddenrates.certificates import certify_alike, certify_enough, certify_known, certify_needed, certify_rank
from hiddenrates.certificates import certify_renaming, certify_runs
from hiddenrates.checker import accepts
from hiddenrates.choices import fewest, shows_more, wider
from hiddenrates.console import fresh_console, said, told_all
from hiddenrates.joined import led_on, side_by_side
from hiddenrates.knowledge import columns_of, fields_of, knowledge, minor_of, taken_looks, unknowns_known
from hiddenrates.looks import look_polynomial, looks_of, slopes_of
from hiddenrates.nets import are_alike, kept_sums, looks_in, parting, seen_in, table_of
from hiddenrates.polynomials import plus, times, unknown_of, worth
from hiddenrates.renamings import led, led_polynomial, renamings
from hiddenrates.series import change, course, worth_along
from hiddenrates.texts import net_of, text_of
from hiddenrates.writings import read_polynomial, show_polynomial
from samples import HALF, NIL, ONE, THIRD, Told, fraction, pair
from terms import some_fraction, some_polynomial

# What is filled into tank 0 goes on to two tanks that are like one another, and from both to the one that is seen.
TEXT = """tanks 4
unknowns 3
pipe 0 1 x0
pipe 0 2 x1
pipe 1 3 1/2
pipe 2 3 1/2
pipe 3 out x2
filled 0
seen 3"""


class OneNet(Told):
    def test_its_text(self):
        net = net_of(TEXT)
        self.assertEqual(text_of(net), TEXT)
        console, answer = said(fresh_console(), "net " + TEXT.replace("\n", ";"))
        self.assertEqual((answer, console[0][0], said(console, "show")[1]), ("4 tanks, 3 unknowns", net, TEXT))

    def test_its_runs_and_looks(self):
        net, shares = net_of(TEXT), (HALF, THIRD, (1, 5))
        fillings = ((ONE,),) + ((NIL,),) * 7
        seen = [row[0] for row in seen_in(net, shares, fillings)]
        looks = [row[0][0] for row in looks_in(net, shares, 8)]
        self.assertEqual(seen[1:], looks)
        told = [look_polynomial(net, look) for look in looks_of(net)]
        self.assertEqual([worth(3, one, shares) for one in told], looks)
        lines = ("net " + TEXT.replace("\n", ";"), "one 0 1/2", "one 1 1/3", "one 2 1/5", "fill 0 1", "go 8")
        console, answers = told_all(fresh_console(), lines)
        words = [row.split(" | ")[0] for row in answers[-1].split("\n")]
        self.assertEqual([fraction(share) for share in looks], [fraction_of(word) for word in words])
        for steps, one in enumerate(told):
            self.assertEqual(said(console, f"look {steps} 3 0")[1], show_polynomial(3, one))
        self.assertEqual(told[2], read_polynomial(3, "1/2 x0 + 1/2 x1"))

    def test_what_is_alike_and_what_is_apart(self):
        net, one = net_of(TEXT), (HALF, THIRD, (1, 5))
        swapped, moved = (THIRD, HALF, (1, 5)), ((1, 4), (7, 12), (1, 5))
        for other in (swapped, moved):
            self.assertIs(are_alike(net, one, other), True)
            self.assertEqual(certify_alike(net, one, other), (("alike", net, one, other), ()))
        self.assertEqual(renamings(net), (((0, 1, 2, 3), (0, 1, 2)), ((0, 2, 1, 3), (1, 0, 2))))
        self.assertEqual(led(net, renamings(net)[1], one), swapped)
        self.assertEqual(certify_renaming(net, (0, 2, 1, 3), (1, 0, 2))[0][0], "renaming")
        other = (HALF, THIRD, (1, 6))
        self.assertEqual(parting(net, one, other), (3, 3, 0))
        self.assertEqual(certify_alike(net, one, other)[1], (3, 3, 0))
        fillings = ((ONE,), (NIL,), (NIL,), (NIL,))
        self.assertEqual(certify_runs(net, one, other, fillings)[0][0], "runs unlike")
        self.assertEqual(certify_runs(net, one, other, fillings[:3])[0][0], "runs alike")
        lines = ("net " + TEXT.replace("\n", ";"), "one 0 1/2", "one 1 1/3", "one 2 1/5", "led 1", "alike")
        lines += ("other 2 1/6",)
        console, answers = told_all(fresh_console(), lines)
        self.assertEqual(answers[4:6], ("begun", "alike"))
        self.assertEqual(said(console, "alike")[1].split(":")[0], "apart at 3 3 0")

    def test_what_is_known(self):
        net = net_of(TEXT)
        x, y, z = [unknown_of(3, unknown) for unknown in range(3)]
        self.assertEqual((taken_looks(net), columns_of(net)), (((2, 3, 0), (3, 3, 0)), (0, 2)))
        self.assertEqual(unknowns_known(net), (2,))
        self.assertEqual(certify_rank(net)[0], ("rank", net, 2))
        (field,) = fields_of(net)
        told = [(x, "free"), (y, "free"), (z, "known"), (plus(3, x, y), "known"), (times(3, x, y), "free")]
        told.append((times(3, z, plus(3, x, y)), "known"))
        console, _ = said(fresh_console(), "net " + TEXT.replace("\n", ";"))
        for one, word in told:
            self.assertEqual(knowledge(net, one)[0], word)
            claim, paper = certify_known(net, one)
            self.assertEqual((claim[0], accepts(claim, paper)), (word, True))
            self.assertEqual(said(console, "ask " + show_polynomial(3, one))[1], word)
            self.assertEqual(change(3, field, one) != (), word == "free")
        self.assertEqual(said(console, "rank")[1], "2 of 3 known by looks; unknowns known: x2")
        row = course(3, field, (HALF, THIRD, (1, 5)), 2)
        self.assertEqual(worth_along(3, plus(3, x, y), 2, row), ((5, 6), NIL, NIL))
        self.assertEqual(row[2], ((1, 5), NIL, NIL))

    def test_which_tanks_are_enough(self):
        net, x = net_of(TEXT), unknown_of(3, 0)
        self.assertEqual((fewest(net, x, "seen"), fewest(net, x, "filled")), ((1,), None))
        self.assertEqual(certify_needed(net, "seen", x)[0][3], 1)
        self.assertEqual(certify_needed(net, "filled", x)[0][3], 4)
        more = wider(net, "seen", (1,))
        self.assertIs(shows_more(more, net), True)
        self.assertEqual(unknowns_known(more), (0, 1, 2))
        self.assertEqual(certify_enough(net, "seen", (1,), x)[0][0], "enough")
        self.assertEqual(certify_enough(net, "filled", (1, 2, 3), x)[0][0], "free")

    def test_put_together(self):
        head = (1, 0, ((0, None, HALF),), (0,), (0,))
        net = net_of("tanks 3\nunknowns 2\npipe 0 1 x0\npipe 1 2 x1\nfilled 0\nseen 2")
        both = led_on(head, 0, net, 0)
        self.assertEqual(unknowns_known(both), unknowns_known(net))
        self.assertEqual(len(taken_looks(both)), len(taken_looks(net)))
        # One beat later comes a half of what is filled in, and at each further beat a half of the half before.
        shares = (THIRD, (1, 5))
        alone, later = looks_in(net, shares, 7), looks_in(both, shares, 8)
        for steps in range(8):
            parts = [fraction(alone[behind][0][0]) / 2 ** (steps - behind) for behind in range(steps)]
            self.assertEqual(fraction(later[steps][1][0]), sum(parts))
        self.assertEqual(side_by_side(head, net)[3:], ((0, 1), (0, 3)))
        self.assertEqual(text_of(both).split("\n")[2], "pipe 0 1 1/2")

    def test_what_is_kept(self):
        closed = net_of("tanks 3\nunknowns 2\npipe 0 1 x0\npipe 1 2 x1\nfilled 0\nseen 2")
        self.assertEqual(kept_sums(closed), ((ONE, ONE, ONE),))
        lines = ("one 0 2/7", "one 1 5/3", "fill 0 4", "go 9", "kept", "held")
        console, _ = said(fresh_console(), "net " + text_of(closed).replace("\n", ";"))
        answers = told_all(console, lines)[1]
        self.assertEqual(answers[-2], "1 1 1")
        mine, yours = answers[-1].split("\n")
        self.assertEqual(sum(map(fraction_of, mine.split(" "))), 4)
        self.assertEqual(yours, "4 0 0")


def fraction_of(word):
    above, _, below = word.partition("/")
    return fraction((int(above), int(below or 1)))


class AllNets(Told):
    """What the parts tell of many nets fits together."""

    def nets(self):
        return ASKED + (TWELVE,) + tuple(some_nets(171, 30))

    def test_alike_exactly_if_finitely_many_looks_are_equal(self):
        source = random.Random(172)
        for net in self.nets():
            one = tuple(pair(some_fraction(source)) for _ in range(net[1]))
            for other in (one[::-1], tuple(pair(some_fraction(source)) for _ in range(net[1]))):
                equal = looks_in(net, one, 2 * net[0]) == looks_in(net, other, 2 * net[0])
                self.assertIs(are_alike(net, one, other), equal)
                self.assertIs(looks_in(net, one, 20) == looks_in(net, other, 20), equal)
                claim, paper = certify_alike(net, one, other)
                self.assertEqual((claim[0], accepts(claim, paper)), ("alike" if equal else "parted", True))
                fillings = tuple(tuple(pair(some_fraction(source)) for _ in net[3]) for _ in range(8))
                if equal:
                    self.assertEqual(seen_in(net, one, fillings), seen_in(net, other, fillings))
                for look in looks_of(net)[:9]:
                    mine = worth(net[1], look_polynomial(net, look), one)
                    yours = worth(net[1], look_polynomial(net, look), other)
                    self.assertIs(mine == yours or not equal, True)

    def test_known_or_free_with_a_paper(self):
        source = random.Random(173)
        for net in ASKED:
            console, _ = said(fresh_console(), "net " + text_of(net).replace("\n", ";"))
            for one in [some_polynomial(source, net[1], 2) for _ in range(3)]:
                word = knowledge(net, one)[0]
                claims = [("known", net, one), ("free", net, one)]
                claim, paper = certify_known(net, one)
                self.assertEqual([accepts(each, paper) for each in claims], [word == "known", word == "free"])
                self.assertEqual(said(console, "ask " + show_polynomial(net[1], one))[1], word)
                still = all(change(net[1], field, one) == () for field in fields_of(net))
                self.assertIs(still, word == "known")
                for renaming in renamings(net)[:4]:
                    self.assertEqual(knowledge(net, led_polynomial(net, renaming, one))[0], word)
                doubled = side_by_side(net, net) if net[0] <= 2 and net[1] <= 1 else None
                if doubled is not None:
                    ahead = tuple((powers + (0,) * net[1], factor) for powers, factor in one)
                    self.assertEqual(knowledge(doubled, ahead)[0], word)

    def test_the_minor_and_the_slopes(self):
        for net in self.nets():
            many = net[1]
            for look in taken_looks(net):
                one = look_polynomial(net, look)
                if one and sum(one[0][0]) <= 4:
                    for field in fields_of(net):
                        parts = [times(many, *both) for both in zip(field, slopes_of(net, one))]
                        total = ()
                        for part in parts:
                            total = plus(many, total, part)
                        self.assertEqual(total, ())
            self.assertNotEqual(minor_of(net), ())
            for field, unknown in itertools.product(fields_of(net), unknowns_known(net)):
                self.assertEqual(field[unknown], ())

    def test_tables_multiplied_are_looks(self):
        source = random.Random(174)
        for net in self.nets()[:12]:
            shares = tuple(pair(some_fraction(source)) for _ in range(net[1]))
            table = table_of(net, shares)
            for steps, tank, filled in looks_of(net):
                if steps == 1:
                    told = worth(net[1], look_polynomial(net, (1, tank, filled)), shares)
                    self.assertEqual(told, table[tank][filled])


if __name__ == "__main__":
    unittest.main()
