"""Points 31 to 33, with 4 to 6 and 12: the console, its states, its lines and their answers."""

import itertools
import random
import unittest
from fractions import Fraction

from generic import APART, ASKED, BESIDE, CUP, EIGHT, FOURTEEN, FULL, GLASS, MUG, NINE, TEN, THIRTEEN, TWELVE, TWINS
from generic import UNKNOWING, some_nets
from hiddenrates.console import fresh_console, said, told_all
from hiddenrates.errors import InvalidLines, InvalidText
from hiddenrates.knowledge import columns_of, fields_of, knowledge, minor_of, taken_looks, unknowns_known
from hiddenrates.looks import look_polynomial, looks_of
from hiddenrates.nets import kept_sums, looks_in, parting, table_of
from hiddenrates.polynomials import minus
from hiddenrates.renamings import led, renamings
from hiddenrates.series import course
from hiddenrates.texts import net_of, text_of
from hiddenrates.writings import show_polynomial
from samples import BARE, HALF, NIL, ONE, PAIR, RING, THINGS, THIRD, Prickly, Told, fraction, pair
from terms import some_fraction, some_polynomial

FRESH = ((None, (), (), (), 0), ())
LOST = "not understood"
WORDS = (
    "net one other led fill go held alike look kept rank ask fields course renamings show new back".split()
)
NETS = ASKED + (TWELVE, EIGHT) + tuple(some_nets(151, 20))


def line_of(net):
    return "net " + text_of(net).replace("\n", ";")


def word_of(share):
    """A fraction as it is written."""
    share = Fraction(*share) if type(share) is tuple else Fraction(share)
    return str(share)


def row_of(shares):
    return " ".join(word_of(share) for share in shares)


def console_of(net, one=None, other=None):
    """The console behind the net and both assignments, if they are told."""
    console, _ = said(fresh_console(), line_of(net))
    for word, shares in (("one", one), ("other", other)):
        for unknown, share in enumerate(shares or ()):
            console, answer = said(console, f"{word} {unknown} {word_of(share)}")
            assert answer == "begun"
    return console


def begun_state(net, one, other):
    nothing = (NIL,) * net[0]
    return (net, one, other, (nothing, nothing), 0)


def some_shares(source, net):
    return tuple(pair(some_fraction(source)) for _ in range(net[1]))


class Asked(Told):
    def answers(self, console, *pairs):
        """Each line is answered so, one behind the other; the last console."""
        for line, told in pairs:
            console, answer = said(console, line)
            self.assertEqual(answer, told, line)
        return console

    def unchanged(self, console, *pairs):
        """Each line is answered so, and changes nothing."""
        for line, told in pairs:
            self.assertEqual(said(console, line), (console, told), line)


class Examples(Told):
    def test_as_they_stand(self):
        pair = (2, 2, ((0, 1, ("x", 0)), (1, 0, ("x", 1)), (1, None, (1, 2))), (0,), (0,))
        lines = (
            "net " + text_of(pair).replace("\n", ";"),
            "one 0 1/2",
            "one 1 1/3",
            "other 0 1/2",
            "other 1 1/2",
            "fill 0 1",
            "go 3",
            "alike",
        )
        begun, answers = told_all(fresh_console(), lines)
        self.assertEqual(
            [answers[0], answers[4:]],
            [
                "2 tanks, 2 unknowns",
                ("begun", "filled", "1 | 1\n1/2 | 1/2\n5/12 | 1/2", "apart at 2 0 0: 5/12 and 1/2"),
            ],
        )
        self.assertEqual(
            told_all(begun, ("look 2 0 0", "rank", "ask x0 + x1", "fields", "kept", "go 60", "held"))[1],
            (
                "x0^2 + x0 x1 - 2 x0 + 1",
                "2 of 2 known by looks; unknowns known: x0 x1",
                "known",
                "none",
                "none",
                "not understood",
                "23/72 19/72\n3/8 1/4",
            ),
        )
        leaky = "net tanks 2;unknowns 2;pipe 0 1 x0;pipe 0 out x1;filled 0;seen 0"
        lines = (
            leaky,
            "ask x0 + x1",
            "ask x0",
            "one 0 1/2",
            "one 1 1/3",
            "fields",
            "course 1 2",
            "back",
            "nets",
        )
        self.assertEqual(
            told_all(fresh_console(), lines)[1][1:],
            (
                "known",
                "free",
                "begun",
                "begun",
                "x1: -1; 1",
                "x0: 1/2 -1 0\nx1: 1/3 1 0",
                "back",
                "not understood",
            ),
        )


class States(Asked):
    def test_fresh(self):
        self.assertEqual(fresh_console(), FRESH)

    def test_a_net(self):
        for net in NETS:
            console, answer = said(fresh_console(), line_of(net))
            self.assertEqual(answer, f"{net[0]} tanks, {net[1]} unknowns")
            nils = (NIL,) * net[1]
            self.assertEqual(console, (begun_state(net, nils, nils), (FRESH[0],)))

    def test_shares_fillings_and_beats(self):
        console = console_of(PAIR, (HALF, THIRD), (THIRD, (-3, 7)))
        state = begun_state(PAIR, (HALF, THIRD), (THIRD, (-3, 7)))
        self.assertEqual((console[0], len(console[1])), (state, 5))
        filled = self.answers(console, ("fill 0 3/4", "filled"))
        self.assertEqual(filled, (state[:3] + ((((3, 4), NIL),) * 2, 0), console[1] + (state,)))
        gone = self.answers(filled, ("go 1", "3/4 | 3/4"))
        self.assertEqual(gone[0][3:], ((((3, 8), (3, 8)), (HALF, (1, 4))), 1))
        self.assertEqual(gone[1], filled[1] + (filled[0],))
        # Any share that is told empties all tanks.
        for line in ("one 0 1/2", "one 1 2", "other 0 1/3", "led 0"):
            console, answer = said(gone, line)
            self.assertEqual((answer, console[0][3:]), ("begun", (((NIL, NIL), (NIL, NIL)), 0)))
            self.assertEqual(console[1], gone[1] + (gone[0],))

    def test_a_state_that_does_not_change_is_not_kept(self):
        console = console_of(PAIR)
        for line, told in (
            (line_of(PAIR), "2 tanks, 2 unknowns"),
            ("one 0 0", "begun"),
            ("other 1 0", "begun"),
            ("led 0", "begun"),
            ("fill 0 0", "filled"),
        ):
            self.unchanged(console, (line, told))
        self.unchanged(fresh_console(), ("new", "new"))
        # Beats are counted, though nothing is held.
        gone = self.answers(console, ("go 1", "0 | 0"))
        self.assertEqual(gone, (console[0][:4] + (1,), console[1] + (console[0],)))

    def test_up_to_twenty_earlier_states(self):
        console = console_of(CUP)
        states = [FRESH[0], console[0]]
        for count in range(1, 30):
            console, _ = said(console, f"one 0 {count}")
            self.assertEqual(console[1], tuple(states[-20:]))
            states.append(console[0])
        for _ in range(20):
            states.pop()
            console, answer = said(console, "back")
            self.assertEqual((answer, console[0]), ("back", states[-1]))
            self.assertEqual(console[1], tuple(states[-1 - len(console[1]):-1]))
        self.assertEqual((console[1], console[0]), ((), states[-1]))
        self.unchanged(console, ("back", "nothing there"))

    def test_twenty_and_one_and_twenty(self):
        for count in (19, 20, 21):
            # One state comes behind for the net, and one for each share.
            console = console_of(CUP)
            for share in range(1, count):
                console, _ = said(console, f"one 0 {share}")
            self.assertEqual(len(console[1]), min(count, 20))
            told = told_all(console, ("back",) * count)[1]
            self.assertEqual(told, ("back",) * min(count, 20) + ("nothing there",) * (count - min(count, 20)))

    def test_back_and_new(self):
        console = console_of(PAIR, (HALF, THIRD))
        self.assertEqual(said(console, "back"), ((console[1][-1], console[1][:-1]), "back"))
        newer, answer = said(console, "new")
        self.assertEqual((answer, newer), ("new", (FRESH[0], console[1] + (console[0],))))
        self.answers(newer, ("held", "no net yet"), ("back", "back"), ("held", "0 0\n0 0"))
        self.assertEqual(said(newer, "back"), (console, "back"))
        self.unchanged(fresh_console(), ("back", "nothing there"))
        # What was gone back from is not to be had again.
        behind = told_all(console, ("back", "back", "one 0 5", "back"))[0]
        self.assertEqual(behind, told_all(console, ("back", "back"))[0])

    def test_lines_that_only_ask_change_nothing(self):
        source = random.Random(152)
        for net in NETS:
            console = console_of(net, some_shares(source, net), some_shares(source, net))
            console, _ = told_all(console, (f"fill {net[3][0]} 2", "go 2"))
            for line in (
                "held",
                "alike",
                "kept",
                "rank",
                "fields",
                "renamings",
                "show",
                f"look 1 {net[4][0]} {net[3][0]}",
                "ask 1",
                "ask x0 - x1",
                "course 0 2",
                "net",
                "net x",
                "net tanks 1;unknowns 0;filled 1;seen 0",
                "fill 9 1",
                "go 59",
                "one 0",
                "what",
                "",
            ):
                reached, answer = said(console, line)
                self.assertEqual(reached, console)
                self.assertIs(type(answer), str)
            self.assertEqual(said(console, "what"), (console, LOST))


class Form(Asked):
    def test_words_that_are_none(self):
        wrong = ("", " ", "   ", "nets", "ne", "Net", "NET x", "held;", "-", "|", "1", "hel d", "\n", "held\n")
        wrong += ("\theld", "net\ttanks 1", "\u00a0held", "alike?", "go3", "one0 1", "x0", "not understood", "__init__")
        for console in (fresh_console(), console_of(PAIR)):
            for line in wrong:
                self.unchanged(console, (line, LOST))

    def test_without_a_net(self):
        for word in WORDS:
            for line in (word, word + " 1 2 3 4 5", "  " + word + "   x"):
                if word not in ("net", "new", "back"):
                    self.unchanged(fresh_console(), (line, "no net yet"))
        self.unchanged(fresh_console(), ("new 1", LOST), ("back 1", LOST), ("net", LOST), ("  net", LOST))
        self.unchanged(fresh_console(), ("net ", "not read at 0"), ("new", "new"), ("back", "nothing there"))

    def test_blanks(self):
        console = console_of(PAIR, (HALF, THIRD), (HALF, HALF))
        for line, told in (
            ("held", "0 0\n0 0"),
            ("alike", "apart at 2 0 0: 5/12 and 1/2"),
            ("look 1 0 0", "-x0 + 1"),
            ("rank", "2 of 2 known by looks; unknowns known: x0 x1"),
            ("course 0 2", "no field"),
            ("show", text_of(PAIR)),
            ("go 31", LOST),
        ):
            self.unchanged(console, (line, told), ("  " + line, told), (line + "   ", told))
            self.unchanged(console, ("   " + line.replace(" ", "    ") + " ", told))
        for line in ("one  1   2/3", " one 1 2/3  ", "one 1 2/3"):
            self.assertEqual(said(console, line)[0][0][1], (HALF, (2, 3)))
        for line in ("go\t1", "go 1\n", "one\u00a01 2/3", "one 1 2 /3", "one 1 2/ 3", "one 1 - 2", "look 1,0,0"):
            self.unchanged(console, (line, LOST))

    def test_words_with_nothing_behind_them(self):
        console = console_of(PAIR)
        for word in ("held", "alike", "kept", "rank", "fields", "renamings", "show", "new", "back"):
            for more in (" 0", " x", " " + word, " -", "  ;  "):
                self.unchanged(console, (word + more, LOST))

    def test_one_less_and_one_more(self):
        console = console_of(TWINS)
        for line in ("one 0 1/2", "other 1 1/2", "led 0", "fill 0 1", "go 1", "look 0 0 0", "course 0 2"):
            self.assertNotEqual(said(console, line)[1], LOST)
            self.unchanged(console, (line + " 0", LOST), (line + " x", LOST), (line.rsplit(" ", 1)[0], LOST))
            self.unchanged(console, (line.split(" ")[0], LOST), (line + " " + line, LOST))

    def test_numbers(self):
        console = console_of(TWINS)
        numbers = ("00", "01", "-0", "-1", "+1", "1.0", "1e0", "x0", "0x0", "", "1_0", "\u0661", "\u00b2", "0/1", "one")
        great = ("9999999999", "10000000000", "00000000000", "99999999999", "1" * 30, "1" * 400)
        for wrong in numbers + great:
            for line in (
                f"one {wrong} 1",
                f"other {wrong} 1",
                f"led {wrong}",
                f"fill {wrong} 1",
                f"go {wrong}",
                f"look {wrong} 0 0",
                f"look 0 {wrong} 0",
                f"look 0 0 {wrong}",
                f"course {wrong} 1",
                f"course 1 {wrong}",
            ):
                self.unchanged(console, (line, LOST))

    def test_numbers_beyond_their_bounds(self):
        console = console_of(TWINS)
        for line, most in (("one {} 1", 1), ("other {} 1", 1), ("led {}", 1), ("course {} 0", 1), ("course 1 {}", 6)):
            for value in range(10):
                answer = said(console, line.format(value))[1]
                self.assertIs(answer == LOST, value > most)
        for value in range(40):
            self.assertIs(said(console, f"go {value}")[1] == LOST, value == 0 or value > 30)
            self.assertIs(said(console, f"fill {value} 1")[1] == LOST, value > 2)

    def test_fractions(self):
        console = console_of(TWINS)
        for word, share in (
            ("0", NIL),
            ("1", ONE),
            ("-1", (-1, 1)),
            ("999", (999, 1)),
            ("-999/998", (-999, 998)),
            ("1/999", (1, 999)),
            ("998/999", (998, 999)),
            ("-7/3", (-7, 3)),
        ):
            reached, answer = said(console, f"one 1 {word}")
            self.assertEqual((answer, reached[0][1]), ("begun", (NIL, share)))
            reached, answer = said(console, f"other 1 {word}")
            self.assertEqual((answer, reached[0][2]), ("begun", (NIL, share)))
            reached, answer = said(console, f"fill 0 {word}")
            self.assertEqual((answer, reached[0][3]), ("filled", ((share, NIL, NIL),) * 2))
        wrong = ("-0", "0/1", "1/1", "2/1", "2/4", "0/2", "1/0", "1/-2", "-1/-2", "--1", "+1", "01", "1/02", "-01")
        wrong += ("1/", "/2", "/", "-", "-/2", "1/2/3", "1000", "-1000", "1/1000", "1000/999", "x0", "1.5", "1" * 300)
        wrong += ("1/" + "1" * 300, "0" * 12, "\u00bd", "\u0661", "1\u00a0", "1/2\n")
        for word in wrong:
            self.unchanged(console, (f"one 0 {word}", LOST), (f"other 0 {word}", LOST), (f"fill 0 {word}", LOST))
            # Tank 1 may not be filled, but that is told only of what is understood.
            self.unchanged(console, (f"fill 1 {word}", LOST))


class Nets(Asked):
    def test_read_as_texts_are(self):
        for text, told in (
            ("tanks 1;unknowns 0;filled 0;seen 0", "1 tanks, 0 unknowns"),
            ("  tanks   1 ;unknowns 0  ; filled 0; seen 0   ", "1 tanks, 0 unknowns"),
            ("tanks 1\nunknowns 0;filled 0\nseen 0", "1 tanks, 0 unknowns"),
            ("", "not read at 0"),
            ("   ", "not read at 0"),
            ("tanks", "not read at 0"),
            ("tanks 1", "not read at 1"),
            ("tanks 1;", "not read at 1"),
            ("tanks 1;unknowns 0;filled 0;seen 0;", "not read at 4"),
            ("tanks 2;unknowns 1;pipe 0 out 1 2", "not read at 2"),
            ("tanks 2;unknowns 1;pipe 0 out 1/2;pip", "not read at 3"),
            ("tanks 1;;unknowns 0;filled 0;seen 0", "not read at 1"),
            (";tanks 1;unknowns 0;filled 0;seen 0", "not read at 0"),
            ("tanks 01;unknowns 0;filled 0;seen 0", "not read at 0"),
            ("tanks 0;unknowns 0;filled 0;seen 0", "no net"),
            ("tanks 99999999999;unknowns 0;filled;seen", "no net"),
            ("tanks 4;unknowns 4;filled 0;seen 0", "no net"),
            ("tanks 2;unknowns 0;pipe 0 1 2/4;filled 0;seen 0", "no net"),
            ("tanks 2;unknowns 0;pipe 0 0 1/2;filled 0;seen 0", "no net"),
            ("tanks 2;unknowns 1;pipe 0 1 x1;filled 0;seen 0", "no net"),
            ("tanks 2;unknowns 1;pipe 0 1 x0;pipe 0 1 x0;filled 0;seen 0", "no net"),
            ("tanks 2;unknowns 0;filled 1 0;seen 0", "no net"),
        ):
            for console in (fresh_console(), console_of(PAIR, (HALF, THIRD))):
                for line in ("net " + text, "   net " + text):
                    reached, answer = said(console, line)
                    self.assertEqual(answer, told, line)
                    if "tanks," not in told:
                        self.assertEqual(reached, console)

    def test_what_is_refused_by_texts_is_so_here(self):
        source = random.Random(153)
        text = text_of(PAIR)
        for _ in range(300):
            at = source.randrange(len(text))
            sign = source.choice((" ", "\n", "x", "0", "9", "/", "-", "seen", ""))
            other = text[:at] + sign + text[at + source.randrange(2):]
            answer = said(fresh_console(), "net " + other.replace("\n", ";"))[1]
            try:
                net = net_of(other)
                self.assertEqual(answer, f"{net[0]} tanks, {net[1]} unknowns")
            except InvalidText as error:
                self.assertEqual(answer, f"not read at {error.index}")
            except ValueError:
                self.assertEqual(answer, "no net")

    def test_another_net_begins_anew(self):
        console = console_of(PAIR, (HALF, THIRD), (ONE, ONE))
        console, _ = told_all(console, ("fill 0 1", "go 2"))
        reached, _ = said(console, line_of(RING))
        self.assertEqual(reached, (begun_state(RING, (NIL,), (NIL,)), console[1] + (console[0],)))
        reached, _ = said(console, line_of(PAIR))
        self.assertEqual(reached[0], begun_state(PAIR, (NIL, NIL), (NIL, NIL)))

    def test_show(self):
        for net in NETS:
            self.unchanged(console_of(net), ("show", text_of(net)))
            self.assertEqual(net_of(said(console_of(net), "show")[1]), net)


class Runs(Asked):
    def test_fill(self):
        console = console_of(GLASS)
        self.unchanged(console, ("fill 1 1", "not to be filled"), ("fill 2 1", LOST), ("fill 1 0", "not to be filled"))
        net = (3, 0, ((0, 1, HALF),), (0, 2), (1,))
        console = self.answers(console_of(net), ("fill 2 1/3", "filled"), ("fill 0 1", "filled"))
        console = self.answers(console, ("fill 2 1/6", "filled"))
        self.answers(console, ("held", "1 0 1/2\n1 0 1/2"), ("fill 1 1", "not to be filled"), ("fill 0 -1", "filled"))

    def test_go_as_the_tables_tell(self):
        source = random.Random(154)
        for net in NETS:
            one, other = some_shares(source, net), some_shares(source, net)
            console = console_of(net, one, other)
            held = [[Fraction(0)] * net[0] for _ in range(2)]
            tables = [[[fraction(each) for each in row] for row in table_of(net, shares)] for shares in (one, other)]
            for beats in (1, 3, 2):
                tank, amount = source.choice(net[3]), source.randrange(-3, 9)
                for row in held:
                    row[tank] += amount
                console, answer = said(console, f"fill {tank} {amount}")
                self.assertEqual(answer, "filled")
                rows = []
                for _ in range(beats):
                    halves = [row_of(row[tank] for tank in net[4]) for row in held]
                    rows.append(" | ".join(halves))
                    held = [
                        [sum(share * each for share, each in zip(line, row)) for line in table]
                        for table, row in zip(tables, held)
                    ]
                console, answer = said(console, f"go {beats}")
                self.assertEqual(answer, "\n".join(rows))
                self.unchanged(console, ("held", "\n".join(row_of(row) for row in held)))
            self.assertEqual(console[0][4], 6)

    def test_up_to_sixty_beats(self):
        console = console_of(CUP, (HALF,), (THIRD,))
        console = self.answers(console, ("fill 0 1", "filled"))
        console, answer = said(console, "go 30")
        self.assertEqual(len(answer.split("\n")), 30)
        self.assertEqual(answer.split("\n")[-1], f"1/{2 ** 29} | {2 ** 29}/{3 ** 29}")
        console, _ = said(console, "go 29")
        self.assertEqual(console[0][4], 59)
        self.unchanged(console, ("go 2", "too long"), ("go 30", "too long"), ("go 31", LOST), ("go 0", LOST))
        console, _ = said(console, "go 1")
        self.assertEqual(console[0][4], 60)
        self.unchanged(console, ("go 1", "too long"), ("go 30", "too long"), ("go 60", LOST))
        # Filling goes on, and what is told anew begins at 0.
        console = self.answers(console, ("fill 0 1", "filled"), ("go 1", "too long"), ("one 0 1/2", "begun"))
        self.assertEqual(console[0][4], 0)
        self.answers(console, ("go 30", "\n".join(["0 | 0"] * 30)))

    def test_great_denominators(self):
        net = (2, 2, ((0, 1, (997, 998)), (1, 0, (991, 999)), (0, None, ("x", 0)), (1, None, ("x", 1))), (0,), (0, 1))
        console = console_of(net, ((1, 997), (1, 991)), ((1, 983), (1, 977)))
        console, _ = told_all(console, ("fill 0 1/971", "go 30", "fill 0 1/967", "go 30"))
        self.assertGreater(len(said(console, "held")[1]), 1000)


class Alike(Asked):
    def test_as_parting_tells(self):
        source = random.Random(155)
        words = set()
        for net in NETS:
            one = some_shares(source, net)
            for other in (one, some_shares(source, net), one[::-1]):
                console = console_of(net, one, other)
                look = parting(net, one, other)
                told = "alike"
                if look is not None:
                    steps, tank, filled = look
                    row, column = net[4].index(tank), net[3].index(filled)
                    looks = [looks_in(net, shares, 8)[steps][row][column] for shares in (one, other)]
                    told = f"apart at {steps} {tank} {filled}: {word_of(looks[0])} and {word_of(looks[1])}"
                self.unchanged(console, ("alike", told))
                words.add(told.split(" ")[0])
        self.assertEqual(words, {"alike", "apart"})

    def test_as_long_as_they_are_alike_both_halves_are_the_same(self):
        source = random.Random(156)
        counts = [0, 0]
        for _ in range(80):
            net = source.choice(NETS)
            console = console_of(net)
            for _ in range(25):
                tank, unknown = source.choice(net[3]), source.randrange(max(1, net[1]))
                share = source.choice(("0", "1/2", "1"))
                lines = [f"fill {tank} {share}", f"go {source.randrange(1, 6)}"] * 3
                lines += ["led 0", "back", f"led {unknown}"]
                lines += [f"{word} {unknown} {share}" for word in ("one", "other")]
                console, answer = said(console, source.choice(lines))
                if "|" in answer:
                    halves = [row.split(" | ") for row in answer.split("\n")]
                    same = all(mine == yours for mine, yours in halves)
                    if said(console, "alike")[1] == "alike":
                        self.assertIs(same, True)
                    counts[same] += 1
        self.assertGreater(min(counts), 5)

    def test_what_is_apart_is_shown(self):
        source = random.Random(157)
        shown = 0
        for net in NETS:
            console = console_of(net, some_shares(source, net), some_shares(source, net))
            if net[1]:
                console, answer = said(console, f"one 0 {word_of(console[0][1][0])}")
                self.assertEqual(answer, "begun")
            words = said(console, "alike")[1].split(" ")
            if words[0] == "apart":
                steps, filled = int(words[2]), words[4][:-1]
                _, (first, rows) = told_all(console, (f"fill {filled} 1", f"go {steps + 1}"))
                self.assertEqual(first, "filled")
                halves = [row.split(" | ") for row in rows.split("\n")]
                self.assertEqual(len(halves), steps + 1)
                self.assertNotEqual(*halves[-1])
                shown += 1
        self.assertGreater(shown, 20)

    def test_behind_led(self):
        source = random.Random(158)
        for net in NETS + ((4, 3, ((0, 1, ("x", 0)), (0, 2, ("x", 1)), (0, 3, ("x", 2))), (0,), (0,)),):
            console = console_of(net, some_shares(source, net), some_shares(source, net))
            told = renamings(net)
            for index, renaming in enumerate(told[:8]):
                reached, answer = said(console, f"led {index}")
                one = console[0][1]
                self.assertEqual((answer, reached[0]), ("begun", begun_state(net, one, led(net, renaming, one))))
                self.unchanged(reached, ("alike", "alike"))
                _, answers = told_all(reached, (f"fill {net[3][-1]} 3/2", "go 9", f"fill {net[3][0]} 1", "go 5"))
                for row in "\n".join((answers[1], answers[3])).split("\n"):
                    mine, yours = row.split(" | ")
                    self.assertEqual(mine, yours)
            self.unchanged(console, (f"led {len(told)}", LOST))


class Knowing(Asked):
    def test_look(self):
        for net in NETS:
            console = console_of(net)
            right = looks_of(net)
            for look in itertools.product(range(9), range(4), range(4)):
                told = show_polynomial(net[1], look_polynomial(net, look)) if look in right else LOST
                if look in right[:12] or look not in right:
                    self.unchanged(console, ("look {} {} {}".format(*look), told))

    def test_kept(self):
        for net in NETS:
            rows = [row_of(row) for row in kept_sums(net)]
            self.unchanged(console_of(net), ("kept", "\n".join(rows) or "none"))
        self.unchanged(console_of(RING), ("kept", "1 1 1"))
        self.unchanged(console_of((2, 0, (), (0,), (1,))), ("kept", "1 0\n0 1"))
        self.unchanged(console_of((3, 0, ((0, 1, HALF), (0, 2, HALF)), (0,), (1,))), ("kept", "1 0 2\n0 1 -1"))

    def test_rank(self):
        for net in NETS:
            known = "".join(f" x{unknown}" for unknown in unknowns_known(net))
            told = f"{len(taken_looks(net))} of {net[1]} known by looks; unknowns known:{known}"
            self.unchanged(console_of(net), ("rank", told))
        self.unchanged(console_of(MUG), ("rank", "1 of 2 known by looks; unknowns known:"))
        self.unchanged(console_of(BARE), ("rank", "0 of 0 known by looks; unknowns known:"))
        self.unchanged(console_of(BESIDE), ("rank", "3 of 4 known by looks; unknowns known: x0 x1"))

    def test_ask(self):
        source = random.Random(159)
        for net in ASKED:
            console = console_of(net)
            for _ in range(3):
                one = some_polynomial(source, net[1], 3)
                writing = show_polynomial(net[1], one)
                for line in (f"ask {writing}", f"  ask   {writing}  ", "ask " + writing.replace(" ", "  ")):
                    self.unchanged(console, (line, knowledge(net, one)[0]))

    def test_ask_what_is_not_read(self):
        console = console_of(MUG)
        for line, told in (
            ("ask", LOST),
            ("   ask", LOST),
            ("ask ", "not read at 0"),
            ("ask    ", "not read at 3"),
            ("ask x2", "not read at 0"),
            ("ask x0 +", "not read at 4"),
            ("ask x0 +  ", "not read at 6"),
            ("  ask   x0 + y", "not read at 7"),
            ("ask x0; x1", "not read at 2"),
            ("ask x0\nx1", "not read at 2"),
            ("ask 3 / 0", "not read at 4"),
            ("ask x0 2", "not read at 3"),
            ("ask x0 + x1", "known"),
            ("ask x0+x1", "known"),
            ("ask 0", "known"),
            ("ask x0^4", "free"),
            ("ask x0^5", "too high"),
            ("ask x0^3 x1^2 - x1", "too high"),
            ("ask x0^5 - x0^5", "known"),
            ("ask x0^40", "too high"),
            ("ask x0^41", "not read at 3"),
            ("ask x0^40 x1", "too many: 41"),
            ("ask x0^40 x1^40 + x0", "too many: 80"),
            ("ask x0^40 x1 - x0^40 x1", "known"),
            ("ask " + "1" * 60, "known"),
            ("ask " + "1" * 61, "not read at 0"),
        ):
            self.unchanged(console, (line, told))

    def test_too_many(self):
        for net, told in ((THIRTEEN, 13), (FOURTEEN, 14), (NINE, 9), (TEN, 10)):
            console = console_of(net)
            many = f"too many: {told}"
            self.unchanged(console, ("rank", many), ("fields", many), ("ask 0", many), ("ask x0", many))
            self.unchanged(console, ("course 0 2", many), ("course 0 7", LOST), ("course 4 0", LOST))
            # Reading comes ahead, and then the degree.
            self.unchanged(console, ("ask x0 +", "not read at 4"), ("ask x0^5", "too high"))
            self.unchanged(console, ("ask x0^40 x1", "too many: 41"))
        console = console_of(TWELVE)
        self.unchanged(console, ("ask 1/2", "known"), ("ask x0", "too many: 13"), ("ask x0^4", "too many: 16"))
        self.unchanged(console, ("ask x0^5", "too high"), ("fields", "none"), ("course 2 6", "no field"))
        self.unchanged(console, ("rank", "3 of 3 known by looks; unknowns known: x0 x1 x2"))
        console = console_of(EIGHT)
        self.unchanged(console, ("ask 1/2", "known"), ("ask x0", "too many: 9"))

    def test_fields(self):
        signs = set()
        for net in NETS:
            columns, turned = columns_of(net), minor_of(net)[0][1][0] < 0
            free = [unknown for unknown in range(net[1]) if unknown not in columns]
            rows = []
            for unknown, field in zip(free, fields_of(net)):
                field = [minus(net[1], (), one) if turned else one for one in field]
                rows.append(f"x{unknown}: " + "; ".join(show_polynomial(net[1], one) for one in field))
                signs.add(turned)
            self.unchanged(console_of(net), ("fields", "\n".join(rows) or "none"))
        self.assertEqual(signs, {True, False})
        self.unchanged(console_of(APART), ("fields", "x0: 1; 0; 0\nx1: 0; 1; 0\nx2: 0; 0; 1"))
        self.unchanged(console_of(BARE), ("fields", "none"))
        self.unchanged(console_of(FULL), ("fields", "none"))

    def test_course(self):
        source = random.Random(160)
        fields = 0
        for net in NETS:
            one = some_shares(source, net)
            console = console_of(net, one, some_shares(source, net))
            columns, turned = columns_of(net), minor_of(net)[0][1][0] < 0
            free = [unknown for unknown in range(net[1]) if unknown not in columns]
            for unknown in columns:
                self.unchanged(console, (f"course {unknown} 0", "no field"), (f"course {unknown} 6", "no field"))
            for unknown, field in zip(free, fields_of(net)):
                field = tuple(minus(net[1], (), part) if turned else part for part in field)
                for degree in (0, 1, 3):
                    rows = course(net[1], field, one, degree)
                    told = "\n".join(f"x{index}: {row_of(row)}" for index, row in enumerate(rows))
                    self.unchanged(console, (f"course {unknown} {degree}", told))
                fields += 1
            self.unchanged(console, (f"course {net[1]} 0", LOST), ("course 0 7", LOST), ("course 0", LOST))
        self.assertGreater(fields, 10)
        self.unchanged(console_of(UNKNOWING), ("course 0 0", LOST))

    def test_renamings(self):
        for net in NETS:
            rows = [" ".join([*map(str, tanks), "|", *map(str, names)]) for tanks, names in renamings(net)]
            self.unchanged(console_of(net), ("renamings", "\n".join(rows)))
        self.unchanged(console_of(TWINS), ("renamings", "0 1 2 | 0 1\n0 2 1 | 1 0"))
        self.unchanged(console_of(BARE), ("renamings", "0 |"))


class Arguments(Told):
    def test_told_all(self):
        lines = (line_of(PAIR), "one 0 1/2", "fill 0 1", "go 2", "what", "held")
        console, answers = fresh_console(), []
        for line in lines:
            console, answer = said(console, line)
            answers.append(answer)
        self.assertEqual(told_all(fresh_console(), lines), (console, tuple(answers)))
        self.assertEqual(told_all(console, ()), (console, ()))

    def test_how_many_lines(self):
        console = console_of(CUP)
        told = told_all(console, ("held",) * 60)
        self.assertEqual(told, (console, ("0\n0",) * 60))
        self.raises(InvalidLines, "index", None, told_all, console, ("held",) * 61)
        self.raises(InvalidLines, "index", None, told_all, console, (None,) * 61)

    def test_what_is_no_text(self):
        for thing in THINGS:
            if type(thing) is not str:
                self.raises(InvalidLines, "index", None, said, fresh_console(), thing)
                self.raises(InvalidLines, "index", 0, told_all, fresh_console(), (thing,))
                self.raises(InvalidLines, "index", 1, told_all, fresh_console(), ("held", thing, None, "x"))
            if type(thing) is not tuple:
                self.raises(InvalidLines, "index", None, told_all, fresh_console(), thing)
        self.raises(InvalidLines, "index", None, told_all, fresh_console(), ["held"])
        self.raises(InvalidLines, "index", 59, told_all, fresh_console(), ("held",) * 59 + (b"held",))
        wrong = tuple((1, value, InvalidLines, "index", None) for value in (None, 0, b"held", ["held"], Prickly()))
        self.all_wrong(said, ("console", "line"), (fresh_console(), "held"), wrong)
        more = ((1, ("held", 5), InvalidLines, "index", 1), (1, (Prickly(), "held"), InvalidLines, "index", 0))
        wrong = tuple((1, value, InvalidLines, "index", None) for value in (None, 0, "held", ["held"], Prickly()))
        self.all_wrong(told_all, ("console", "lines"), (fresh_console(), ("held",)), wrong + more)

    def test_no_line_is_said_if_one_is_wrong(self):
        console = console_of(CUP)
        before = said(console, "held")
        self.raises(InvalidLines, "index", 2, told_all, console, ("one 0 1", "go 1", None))
        self.assertEqual(said(console, "held"), before)

    def test_equal_calls(self):
        lines = (line_of(MUG), "one 0 1/2", "fields", "course 1 3", "go 2", "back", "ask x0 x1", "rank", "renamings")
        self.assertEqual(told_all(fresh_console(), lines), told_all(fresh_console(), lines))
        self.assertEqual(fresh_console(), FRESH)


if __name__ == "__main__":
    unittest.main()
