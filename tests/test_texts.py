"""Point 12: nets as texts, and texts as nets."""

import random
import unittest

from hiddenrates.errors import InvalidNet, InvalidText
from hiddenrates.nets import is_net
from hiddenrates.texts import net_of, text_of
from samples import BARE, CHAIN, HALF, NETS, NIL, ONE, PAIR, RING, THINGS, WIDE, Prickly, Told
from test_nets import some_nets

PAIR_TEXT = "tanks 2\nunknowns 2\npipe 0 1 x0\npipe 1 0 x1\npipe 1 out 1/2\nfilled 0\nseen 0"
WIDE_TEXT = (
    "tanks 3\nunknowns 4\npipe 0 1 x0\npipe 0 1 x1\npipe 1 2 x2\npipe 2 0 -3/7\npipe 2 out x3\npipe 1 out x0\n"
    "pipe 0 2 5/4\nfilled 0 2\nseen 0 1 2"
)
# One pipe goes between the rows that are right ahead of it and behind it.
PIPED = "tanks 2\nunknowns 2\n{}\nfilled 0\nseen 0"


class Examples(Told):
    def test_as_they_stand(self):
        self.assertEqual(
            text_of(PAIR).split("\n"),
            ["tanks 2", "unknowns 2", "pipe 0 1 x0", "pipe 1 0 x1", "pipe 1 out 1/2", "filled 0", "seen 0"],
        )
        self.assertEqual(net_of(text_of(RING)) == RING, True)
        self.raises(InvalidText, "index", 2, net_of, "tanks 2\nunknowns 1\npipe 0 out 1 2")
        with self.assertRaises(InvalidNet) as caught:
            net_of("tanks 1\nunknowns 0\npipe 0 0 2/4\nfilled\nseen 0")
        self.assertEqual(caught.exception.given, (1, 0, ((0, 0, (2, 4)),), (), (0,)))


class Showing(Told):
    def test_by_hand(self):
        self.assertEqual(text_of(BARE), "tanks 1\nunknowns 0\nfilled 0\nseen 0")
        self.assertEqual(text_of(WIDE), WIDE_TEXT)
        pipes = ((0, 1, NIL), (0, 1, ONE), (0, 1, (-1, 1)), (0, 1, (-999, 998)))
        pipes += ((0, None, (1, 999)), (0, None, (999, 1)))
        rows = text_of((2, 0, pipes, (0, 1), (1,))).split("\n")
        self.assertEqual(
            rows,
            ["tanks 2", "unknowns 0", "pipe 0 1 0", "pipe 0 1 1", "pipe 0 1 -1", "pipe 0 1 -999/998"]
            + ["pipe 0 out 1/999", "pipe 0 out 999", "filled 0 1", "seen 1"],
        )

    def test_pipes_stay_in_their_order(self):
        turned = PAIR[:2] + (PAIR[2][::-1],) + PAIR[3:]
        self.assertNotEqual(text_of(turned), text_of(PAIR))
        self.assertEqual(net_of(text_of(turned)), turned)

    def test_wrong_arguments(self):
        self.assertEqual(text_of(net=BARE), text_of(BARE))
        for thing in THINGS + (list(PAIR), PAIR[:4], (1, 0, (), (0,), ())):
            self.raises(InvalidNet, "given", thing, text_of, thing)


class ReadBack(Told):
    def test_samples(self):
        for net in NETS:
            self.assertEqual(net_of(text_of(net)), net)
            self.assertEqual(net_of(text=text_of(net)), net)

    def test_many_nets(self):
        texts = {}
        for _, net, _ in some_nets(11, 300):
            text = text_of(net)
            self.assertEqual(net_of(text), net)
            self.assertEqual(texts.setdefault(text, net), net)
            self.assertEqual(text_of(net_of(text)), text)
        self.assertGreater(len(texts), 250)


class Reading(Told):
    def refused(self, index, *texts):
        for text in texts:
            with self.subTest(text=text):
                self.raises(InvalidText, "index", index, net_of, text)

    def no_net(self, text, told):
        with self.assertRaises(InvalidNet) as caught:
            net_of(text)
        self.assertEqual(caught.exception.given, told)
        self.assertIs(is_net(caught.exception.given), False)

    def test_blanks(self):
        source = random.Random(12)
        for _ in range(50):
            rows = []
            for row in WIDE_TEXT.split("\n"):
                words = row.split(" ")
                spread = " " * source.randrange(3) + words[0]
                for word in words[1:]:
                    spread += " " * source.randrange(1, 4) + word
                rows.append(spread + " " * source.randrange(3))
            self.assertEqual(net_of("\n".join(rows)), WIDE)

    def test_other_signs_are_no_blanks(self):
        for sign in ("\t", "\r", "\f", "\v", "\u00a0", "\u2003", "\x1c", "\x85", "\u2028", ",", "_", "\x00"):
            self.refused(0, PAIR_TEXT.replace(" ", sign, 1), sign + PAIR_TEXT, PAIR_TEXT.replace("\n", sign, 1))
            self.refused(0, PAIR_TEXT.replace("\n", sign + "\n", 1))
            self.refused(6, PAIR_TEXT + sign)
        self.refused(0, PAIR_TEXT.replace("\n", "\r\n"))
        self.refused(0, PAIR_TEXT.replace("\n", "\r"))

    def test_a_blank_is_needed_between_words(self):
        self.refused(0, "tanks2\nunknowns 0\nfilled 0\nseen 0")
        self.refused(2, PIPED.format("pipe0 1 x0"), PIPED.format("pipe 01 x0"), PIPED.format("pipe 0 1x0"))
        self.refused(2, PIPED.format("pipe 0 1 x 0"), PIPED.format("pipe 0 1 1 /2"), PIPED.format("pipe 0 1 1/ 2"))
        self.refused(2, PIPED.format("pipe 0 1 - 1"), PIPED.format("pi pe 0 1 1"), PIPED.format("pipe 0 o ut 1"))

    def test_a_row_too_few(self):
        rows = PAIR_TEXT.split("\n")
        for index, told in ((0, 0), (1, 1), (5, 5), (6, 6)):
            self.refused(told, "\n".join(rows[:index] + rows[index + 1:]))
        # A pipe may be missing.
        self.assertEqual(net_of("\n".join(rows[:2] + rows[3:])), PAIR[:2] + (PAIR[2][1:],) + PAIR[3:])

    def test_the_end_is_missing(self):
        rows = PAIR_TEXT.split("\n")
        for many in range(1, len(rows)):
            self.refused(many, "\n".join(rows[:many]))
        self.refused(0, "", " ", "tank", "tanks", "tanks 2 2", "2")
        self.refused(1, "tanks 2\n", "tanks 2\n\n", "tanks 2\nunknowns", "tanks 2\nunknowns 1 1")

    def test_a_row_too_many(self):
        rows = PAIR_TEXT.split("\n")
        self.refused(7, PAIR_TEXT + "\n", PAIR_TEXT + "\n\n", PAIR_TEXT + "\n ", PAIR_TEXT + "\nseen 0")
        self.refused(7, PAIR_TEXT + "\npipe 0 1 1", PAIR_TEXT + "\n" + PAIR_TEXT, PAIR_TEXT + "\nx\ny")
        self.refused(1, "\n".join(rows[:1] + rows))
        self.refused(2, "\n".join(rows[:2] + rows[1:]))
        self.refused(6, "\n".join(rows[:6] + rows[5:]))

    def test_rows_exchanged(self):
        rows = PAIR_TEXT.split("\n")
        # What is filled may stand where a pipe could, so the pipe behind it is the first wrong row.
        for index, told in ((0, 0), (1, 1), (4, 5), (5, 5)):
            turned = list(rows)
            turned[index], turned[index + 1] = rows[index + 1], rows[index]
            self.refused(told, "\n".join(turned))
        self.assertEqual(net_of("\n".join(rows[:2] + [rows[3], rows[2]] + rows[4:]))[2][:2], PAIR[2][1::-1])
        self.refused(3, "tanks 2\nunknowns 0\nfilled 0\npipe 0 1 1\nseen 0")

    def test_empty_rows(self):
        rows = PAIR_TEXT.split("\n")
        for index in range(len(rows) + 1):
            for blank in ("", " ", "   "):
                self.refused(index, "\n".join(rows[:index] + [blank] + rows[index:]))
                if index < len(rows):
                    self.refused(index, "\n".join(rows[:index] + [blank] + rows[index + 1:]))

    def test_first_words(self):
        rows = PAIR_TEXT.split("\n")
        for index, row in enumerate(rows):
            word, rest = row.split(" ", 1)
            for other in (word[:-1], word + "s", word.upper(), word.title(), "x", rest.split(" ")[0]):
                self.refused(index, "\n".join(rows[:index] + [other + " " + rest] + rows[index + 1:]))
            self.refused(index, "\n".join(rows[:index] + [rest] + rows[index + 1:]))

    def test_the_first_wrong_row_is_told(self):
        self.refused(0, "tanks\nunknowns\nfilled x\nseen x")
        self.refused(1, "tanks 1\nunknowns\nfilled x\nseen x")
        self.refused(2, "tanks 1\nunknowns 0\nfilled x\nseen x")
        self.refused(3, "tanks 1\nunknowns 0\nfilled 0\nseen x\nx")
        self.refused(2, "tanks 1\nunknowns 0\npipe 0\nfilled x\nseen x")
        self.refused(3, "tanks 1\nunknowns 0\npipe 0 out 1\npipe 0\npipe")

    def test_numbers(self):
        words = ("00", "01", "007", "-0", "-1", "+1", "", "x", "1.0", "1e1", "0x1", "1_0", "1/1", "out")
        for word in words + ("\u0661", "\u00b2"):
            self.refused(0, PAIR_TEXT.replace("tanks 2", "tanks " + word))
            self.refused(1, PAIR_TEXT.replace("unknowns 2", "unknowns " + word))
            self.refused(2, PIPED.format(f"pipe {word} 1 x0"))
            if word != "out":
                self.refused(2, PIPED.format(f"pipe 0 {word} x0"))
            self.refused(2, PIPED.format(f"pipe 0 1 x{word}"), PIPED.format(f"pipe 0 1 1/{word}"))
            if word != "":
                self.refused(5, PAIR_TEXT.replace("filled 0", "filled " + word))
                self.refused(6, PAIR_TEXT.replace("seen 0", "seen 0 " + word))

    def test_shares(self):
        for word in ("00", "01", "-0", "-00", "-01", "--1", "+1", "-"):
            self.refused(2, PIPED.format("pipe 0 1 " + word), PIPED.format("pipe 0 1 " + word + "/2"))
        for word in ("1/", "/1", "/", "-/1", "0/01", "1/02", "1/00"):
            self.refused(2, PIPED.format("pipe 0 1 " + word))
        for word in ("1/2/3", "1//2", "1/-2", "-1/-2", "x1/2", "1/x1"):
            self.refused(2, PIPED.format("pipe 0 1 " + word))
        for word in ("x", "x-1", "x01", "-x1", "X0", "y0", "x 0", "xx0", "out"):
            self.refused(2, PIPED.format("pipe 0 1 " + word))
        for word in ("1-", "1-2", "0-", "\u00bd", "1\u20442", "\uff11", "1.5", "1,5", "(1/2)", "\u22121"):
            self.refused(2, PIPED.format("pipe 0 1 " + word))

    def test_words_of_pipes(self):
        for row in ("pipe", "pipe 0", "pipe 0 1", "pipe 0 1 1 1"):
            self.refused(2, PIPED.format(row))
        for row in ("pipe out 1 1", "pipe 0 Out 1", "pipe 0 outs 1", "pipe x0 1 1"):
            self.refused(2, PIPED.format(row))
        self.refused(2, PIPED.format("pipe 0 None 1"), PIPED.format("pipe 0 1 None"), PIPED.format("pipe None 1 1"))

    def test_shares_that_are_right(self):
        for word, share in (
            ("0", NIL),
            ("1", ONE),
            ("1/2", HALF),
            ("-1/2", (-1, 2)),
            ("-7", (-7, 1)),
            ("7/1", (7, 1)),
            ("-7/1", (-7, 1)),
            ("0/1", NIL),
            ("999/998", (999, 998)),
            ("x0", ("x", 0)),
            ("x1", ("x", 1)),
        ):
            for end, word_of_end in ((1, "1"), (None, "out")):
                told = net_of(PIPED.format(f"pipe 0 {word_of_end} {word}"))
                self.assertEqual(told, (2, 2, ((0, end, share),), (0,), (0,)))

    def test_right_in_form_but_no_net(self):
        for word, share in (
            ("2/4", (2, 4)),
            ("1/0", (1, 0)),
            ("-1/0", (-1, 0)),
            ("0/0", (0, 0)),
            ("0/2", (0, 2)),
            ("1000", (1000, 1)),
            ("1/1000", (1, 1000)),
            ("x2", ("x", 2)),
            ("x10", ("x", 10)),
            (str(10 ** 399), (10 ** 399, 1)),
        ):
            self.no_net(PIPED.format("pipe 0 1 " + word), (2, 2, ((0, 1, share),), (0,), (0,)))
        self.no_net(PIPED.format("pipe 2 0 1"), (2, 2, ((2, 0, ONE),), (0,), (0,)))
        self.no_net(PIPED.format("pipe 1 1 1"), (2, 2, ((1, 1, ONE),), (0,), (0,)))
        self.no_net(PIPED.format("pipe 0 9 1"), (2, 2, ((0, 9, ONE),), (0,), (0,)))
        self.no_net(PIPED.format("pipe 0 1 1\npipe 0 1 1/1"), (2, 2, ((0, 1, ONE),) * 2, (0,), (0,)))
        thirteen = ((0, 1, HALF),) * 13
        self.no_net(PIPED.format("\n".join(["pipe 0 1 1/2"] * 13)), (2, 2, thirteen, (0,), (0,)))

    def test_tanks_and_unknowns_in_form_but_no_net(self):
        self.no_net("tanks 0\nunknowns 0\nfilled\nseen", (0, 0, (), (), ()))
        self.no_net("tanks 5\nunknowns 0\nfilled 0\nseen 0", (5, 0, (), (0,), (0,)))
        self.no_net("tanks 12\nunknowns 30\nfilled 0\nseen 0", (12, 30, (), (0,), (0,)))
        self.no_net("tanks 4\nunknowns 4\nfilled 0\nseen 0", (4, 4, (), (0,), (0,)))
        self.no_net("tanks 1\nunknowns 0\nfilled\nseen 0", (1, 0, (), (), (0,)))
        self.no_net("tanks 1\nunknowns 0\nfilled 0\nseen ", (1, 0, (), (0,), ()))
        self.no_net("tanks 2\nunknowns 0\nfilled 1 0\nseen 0 0", (2, 0, (), (1, 0), (0, 0)))
        self.no_net("tanks 2\nunknowns 0\nfilled 0 1 2 3 4 5\nseen 7", (2, 0, (), (0, 1, 2, 3, 4, 5), (7,)))

    def test_form_is_told_ahead_of_what_is_no_net(self):
        self.refused(4, "tanks 9\nunknowns 9\npipe 7 7 3/9\nfilled", "tanks 9\nunknowns 9\nfilled\nseen\n")

    def test_no_texts(self):
        for thing in THINGS:
            if type(thing) is not str:
                self.raises(InvalidText, "index", None, net_of, thing)
        for thing in (PAIR, CHAIN, PAIR_TEXT.encode(), list(PAIR_TEXT), tuple(PAIR_TEXT.split("\n")), Prickly()):
            self.raises(InvalidText, "index", None, net_of, thing)


if __name__ == "__main__":
    unittest.main()
