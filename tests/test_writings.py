"""Point 16, with 4 to 6 and 14: polynomials shown and read."""

import itertools
import random
import re
import unittest
from fractions import Fraction

from hiddenrates.errors import InvalidWriting, TooMany
from hiddenrates.polynomials import minus, number, plus, times, unknown_of
from hiddenrates.writings import read_polynomial, show_polynomial
from samples import HALF, ONE, THINGS, Told
from terms import SQUARES, WRONG_MANY, X, Y, all_powers, as_terms, power, some_fraction, some_polynomial
from terms import with_terms, wrong_at

UNIT = power(0, 0)
MINUS = (-1, 1)


class Examples(Told):
    def test_as_they_stand(self):
        x, y = unknown_of(2, 0), unknown_of(2, 1)
        squares = plus(2, times(2, x, x), times(2, y, number(2, (-1, 2))))
        both = times(2, plus(2, x, y), minus(2, x, y))
        self.assertEqual(
            [
                show_polynomial(2, squares),
                show_polynomial(2, minus(2, (), squares)),
                show_polynomial(2, ()),
                show_polynomial(2, times(2, number(2, (3, 2)), times(2, both, x))),
            ],
            ["x0^2 - 1/2 x1", "-x0^2 + 1/2 x1", "0", "3/2 x0^3 - 3/2 x0 x1^2"],
        )
        self.assertEqual(
            [
                read_polynomial(2, "x0 x0 - 1 / 2 x1 + 0 x0") == squares,
                read_polynomial(2, "- x1 ^ 0 + 1"),
                read_polynomial(1, "2/4 x0"),
            ],
            [True, (), (((1,), (1, 2)),)],
        )
        self.raises(InvalidWriting, "place", 11, read_polynomial, 2, "- 3 + x1^0 2")
        self.raises(InvalidWriting, "place", 4, read_polynomial, 2, "3 / 0")


class Shown(Told):
    def test_nought_and_numbers(self):
        for many in range(5):
            self.assertEqual(show_polynomial(many, ()), "0")
            for fraction, writing in (
                (ONE, "1"),
                (MINUS, "-1"),
                ((2, 1), "2"),
                ((-30, 1), "-30"),
                (HALF, "1/2"),
                ((-1, 2), "-1/2"),
                ((10, 7), "10/7"),
                ((10 ** 399, 1), "1" + "0" * 399),
            ):
                self.assertEqual(show_polynomial(many, number(many, fraction)), writing)

    def test_fractions_ahead_of_factors(self):
        for fraction, writing in (
            (ONE, "x1"),
            (MINUS, "-x1"),
            ((2, 1), "2 x1"),
            ((-2, 1), "-2 x1"),
            (HALF, "1/2 x1"),
            ((-1, 2), "-1/2 x1"),
            ((11, 3), "11/3 x1"),
        ):
            self.assertEqual(show_polynomial(2, (((0, 1), fraction),)), writing)

    def test_signs_between(self):
        for fraction, writing in ((ONE, "+ 1"), (MINUS, "- 1"), (HALF, "+ 1/2"), ((-3, 2), "- 3/2")):
            self.assertEqual(show_polynomial(2, X + ((((0, 0), fraction)),)), "x0 " + writing)
            self.assertEqual(show_polynomial(2, (((1, 0), MINUS), ((0, 0), fraction))), "-x0 " + writing)
        for fraction, writing in ((ONE, "+ x1"), (MINUS, "- x1"), ((2, 1), "+ 2 x1"), ((-2, 3), "- 2/3 x1")):
            self.assertEqual(show_polynomial(2, X + (((0, 1), fraction),)), "x0 " + writing)

    def test_powers(self):
        self.assertEqual(show_polynomial(1, power(1)), "x0")
        self.assertEqual(show_polynomial(1, power(2)), "x0^2")
        self.assertEqual(show_polynomial(1, power(40)), "x0^40")
        self.assertEqual(show_polynomial(4, power(1, 0, 12, 2)), "x0 x2^12 x3^2")
        self.assertEqual(show_polynomial(4, power(0, 0, 0, 1)), "x3")
        self.assertEqual(show_polynomial(3, (((3, 2, 1), (-5, 6)),)), "-5/6 x0^3 x1^2 x2")

    def test_terms_in_order(self):
        told = (((2, 0), ONE), ((1, 1), (2, 1)), ((0, 2), ONE), ((1, 0), MINUS), ((0, 1), (7, 1)), ((0, 0), MINUS))
        self.assertEqual(show_polynomial(2, told), "x0^2 + 2 x0 x1 + x1^2 - x0 + 7 x1 - 1")

    def test_wrong_arguments(self):
        self.all_wrong(show_polynomial, ("many", "one"), (2, SQUARES), WRONG_MANY + wrong_at(1))


class Read(Told):
    def same(self, many, told, *writings):
        for writing in writings:
            self.assertEqual(read_polynomial(many, writing), told, writing)

    def test_what_is_shown_is_read_back(self):
        source = random.Random(41)
        for _ in range(300):
            many = source.randrange(5)
            one = some_polynomial(source, many, 5, 8)
            self.same(many, one, show_polynomial(many, one))
        full = with_terms(4, 600, 12)
        self.same(4, full, show_polynomial(4, full))
        great = (((40,), (10 ** 60 - 1, 10 ** 59 + 7)), ((0,), (1 - 10 ** 60, 1)))
        self.same(1, great, show_polynomial(1, great))

    def test_terms_in_any_order(self):
        told = (((2, 0), ONE), ((0, 2), (3, 1)), ((1, 0), MINUS), ((0, 0), HALF))
        words = {"x0^2": "+", "3 x1^2": "+", "x0": "-", "1/2": "+"}
        for order in itertools.permutations(words):
            self.same(2, told, "0 " + " ".join(words[word] + " " + word for word in order))
        self.same(2, X + Y, "x1 + x0", "x0 + x1")
        self.same(2, (((1, 0), MINUS), ((0, 1), ONE)), "x1 - x0", "-x0 + x1", "- x0+x1")

    def test_told_twice_and_cancelled(self):
        self.same(2, (((1, 0), (2, 1)),), "x0 + x0", "2 x0", "3 x0 - x0", "1/2 x0 + 3/2 x0", "x0 + x1 + x0 - x1")
        self.same(2, (), "x0 - x0", "1 - 1", "-x0 x1 + x1 x0", "1/2 - 2/4", "x0 - 1/3 x0 - 2/3 x0", "0", "-0", "0 - 0")
        self.same(1, (((1,), (5, 6)),), "1/2 x0 + 1/3 x0")

    def test_factors(self):
        self.same(2, (((3, 2), (4, 1)),), "4 x0^3 x1^2", "4 x1^2 x0^3", "4 x0 x1 x0 x1 x0", "4 x0^2 x1^2 x0^1")
        self.same(2, X, "x0", "x0^1", "1 x0", "1/1 x0", "x0 x1^0", "x1^0 x0", "x0^0 x0", "x0^1 x0^0")
        self.same(2, UNIT, "1", "x0^0", "x0^0 x1^0", "1 x1^0", "x0^0 x0^0")
        self.same(1, power(40), "x0^40", "x0^20 x0^20", "x0^39 x0", " ".join(["x0"] * 40))

    def test_fractions(self):
        self.same(1, number(1, HALF), "1/2", "2/4", "50/100", "1 / 2", "1/ 2", "1 /2", "3/2 - 1")
        self.same(1, number(1, (3, 1)), "3", "3/1", "6/2", "300/100")
        self.same(1, (), "0/1", "0/7", "0 / 12 x0", "-0/3 x0")
        self.same(1, number(1, (-3, 2)), "-3/2", "- 3 / 2", "-6/4", "0 - 3/2")

    def test_blanks(self):
        told = (((2, 1), (-3, 2)), ((0, 1), ONE))
        self.same(2, told, "-3/2 x0^2 x1 + x1", "-3/2 x0^2 x1+x1", "x1-3/2 x1 x0^2")
        self.same(2, told, "  -  3  /  2  x0  ^  2  x1  +  x1  ")
        # Without a blank between two words both are one word, which is another one.
        for writing, place in (("3x0", 0), ("x0x1", 0), ("1/2x0", 2), ("x0^2x1", 3), ("x0 2", 3), ("x0 + 3x1", 5)):
            self.raises(InvalidWriting, "place", place, read_polynomial, 2, writing)

    def test_no_unknowns(self):
        self.same(0, number(0, (1, 6)), "1/2 - 1/3")
        for writing, place in (("x0", 0), ("1 x0", 2), ("x", 0)):
            self.raises(InvalidWriting, "place", place, read_polynomial, 0, writing)

    def test_all_unknowns(self):
        for many in range(5):
            for unknown in range(many):
                self.same(many, unknown_of(many, unknown), f"x{unknown}")
            self.raises(InvalidWriting, "place", 0, read_polynomial, many, f"x{many}")

    def test_told_at_random(self):
        source = random.Random(42)
        for _ in range(200):
            many = source.randrange(5)
            kept, writing = {}, ""
            for index in range(source.randrange(1, 7)):
                fraction, below = abs(some_fraction(source)), source.randrange(1, 5)
                length = source.randrange(4) if many else 0
                factors = [(source.randrange(many), source.randrange(4)) for _ in range(length)]
                words = [f"{fraction.numerator * below}/{fraction.denominator * below}"]
                words += [f"x{unknown}" if risen == 1 else f"x{unknown}^{risen}" for unknown, risen in factors]
                sign = source.choice("+-") if index else source.choice(("", "-"))
                writing += sign + " " * source.randrange(3) + "  ".join(words) + " " * source.randrange(3)
                powers = tuple(sum(risen for unknown, risen in factors if unknown == each) for each in range(many))
                kept[powers] = kept.get(powers, 0) + (-fraction if sign == "-" else fraction)
            self.same(many, as_terms(kept), writing)


class Numbers(Told):
    def test_figures(self):
        full = "9" * 60
        self.assertEqual(read_polynomial(1, full), number(1, (int(full), 1)))
        self.assertEqual(read_polynomial(1, "1/" + full), number(1, (1, int(full))))
        self.assertEqual(read_polynomial(1, f"-{full} x0"), (((1,), (-int(full), 1)),))
        for long in ("9" * 61, "1" + "0" * 60, "1" * 400, "7" * 30000):
            self.raises(InvalidWriting, "place", 0, read_polynomial, 1, long)
            self.raises(InvalidWriting, "place", 1, read_polynomial, 1, "-" + long + " x0")
            self.raises(InvalidWriting, "place", 5, read_polynomial, 1, " 1 / " + long)
            self.raises(InvalidWriting, "place", 3, read_polynomial, 1, "x0^" + long)
            self.raises(InvalidWriting, "place", 0, read_polynomial, 1, "x" + long)

    def test_added_up_there_may_be_more_figures(self):
        full = "9" * 60
        self.assertEqual(read_polynomial(0, f"{full} + {full}"), number(0, (2 * int(full), 1)))
        self.assertEqual(show_polynomial(0, number(0, (2 * int(full), 1))), "1" + "9" * 59 + "8")

    def test_noughts_ahead(self):
        for writing, place in (
            ("00", 0),
            ("01", 0),
            ("1/02", 2),
            ("1/00", 2),
            ("1/0", 2),
            ("x0^00", 3),
            ("x0^01", 3),
            ("x0^040", 3),
            ("x00", 0),
            ("x01", 0),
            ("- 007 x0", 2),
        ):
            self.raises(InvalidWriting, "place", place, read_polynomial, 2, writing)
        self.assertEqual([read_polynomial(2, "0"), read_polynomial(2, "10 x0^0")], [(), number(2, (10, 1))])

    def test_powers(self):
        self.assertEqual(read_polynomial(1, "x0^40"), power(40))
        for told in ("41", "99", "100", "400"):
            self.raises(InvalidWriting, "place", 3, read_polynomial, 1, "x0^" + told)
            self.raises(InvalidWriting, "place", 8, read_polynomial, 1, "0 + x0^ " + told + " x9")
        for told in ("-1", "x0", "+", "^", "/", ""):
            self.raises(InvalidWriting, "place", 3, read_polynomial, 1, "x0^" + told)


# What stands for a word or a mark of each kind, in MANY 2.
KINDS = {"n": "12", "z": "0", "u": "x1", "b": "x2", "/": "/", "^": "^", "+": "+", "-": "-"}
FACTOR = r"u(\^[nz])?"
TERM = rf"([nz](/n)?({FACTOR})*|({FACTOR})+)"
WHOLE = re.compile(rf"-?{TERM}([+-]{TERM})*")
ENDS = [""] + [one + two for one in KINDS for two in [""] + list(KINDS)]


def goes_on(kinds):
    """Whether some writing begins so: each one can be ended by two words or marks."""
    return any(WHOLE.fullmatch(kinds + end) for end in ENDS)


class Refused(Told):
    def refused(self, *pairs):
        for writing, place in pairs:
            self.raises(InvalidWriting, "place", place, read_polynomial, 2, writing)

    def test_every_row_of_five_words_and_marks(self):
        refused = right = 0
        rows = [""]
        for row in rows:
            if goes_on(row) and len(row) < 5:
                rows.extend(row + kind for kind in KINDS)
            for blank in (" ", "  "):
                words = [KINDS[kind] for kind in row]
                writing = blank.join(words) + blank
                if not goes_on(row):
                    # All rows here go on up to their last word or mark.
                    place = len(writing) - len(blank) - len(words[-1])
                elif WHOLE.fullmatch(row):
                    read_polynomial(2, writing)
                    right += 1
                    continue
                else:
                    place = len(writing)
                self.raises(InvalidWriting, "place", place, read_polynomial, 2, writing)
                refused += 1
        self.assertGreater(right, 500)
        self.assertGreater(refused, 2000)

    def test_the_first_one_is_told(self):
        self.refused(("x0 x0 3 x0 x9", 6), ("x2 3x", 0), ("1 + + 1 + +", 4), ("1/0/0", 2))

    def test_ends_too_early(self):
        self.refused(("", 0), (" ", 1), ("     ", 5))
        self.refused(("-", 1), ("- ", 2), ("x0 +", 4), ("x0 -   ", 7), ("1/", 2), ("1 / ", 4), ("x0^", 3))
        self.refused(("3 x0 ^  ", 8), ("x0 - 1/2 x1 -", 13))

    def test_marks_too_many_or_too_few(self):
        self.refused(("+ x0", 0), ("+", 0), ("- - x0", 2), ("x0 + - x1", 5), ("x0 - - x1", 5), ("x0 ++ x1", 4))
        self.refused(("/ 2", 0), ("1 // 2", 3), ("1/2/3", 3), ("^2", 0), ("x0^^2", 3), ("x0^2^2", 4), ("2^2", 1))
        self.refused(("x0/2", 2), ("x0^1/2", 4), ("1 2", 2), ("x0 2", 3), ("x0^2 2", 5), ("1/2 3", 4), ("1/-2", 2))
        self.refused(("-1/+2", 3), ("x0^+2", 3), ("2 - / 3", 4))

    def test_words_that_are_none(self):
        self.refused(("x", 0), ("x 0", 0), ("y", 0), ("y0", 0), ("xx0", 0), ("0x", 0), ("1e3", 0), ("x0a", 0))
        self.refused(("1 x", 2), ("x0 + x10", 5), ("x0 x", 3), ("x0 and x1", 3), ("x0^x", 3), ("1/x0", 2), ("1/y", 2))

    def test_signs_that_belong_to_none(self):
        for sign in "*.,()=_X\t\n\r\v\x0b\x1c\x00\u00a0\u2003\u0660\u00b2\u00e9\u2212\uff11\ud800~!":
            self.refused((sign, 0), ("x0 " + sign + " x1", 3), ("x0" + sign, 2), ("x0 - " + sign, 5), (" " + sign, 1))
            self.refused(("1" + sign + "2", 1), ("x0 ^" + sign, 4), ("1/" + sign + "2", 2), ("3x" + sign, 0))
        self.refused(("X0", 0), ("xX0", 0), ("1.5", 1), ("2*x0", 1), ("(x0)", 0), ("x0\n", 2), ("\tx0", 0))

    def test_no_text(self):
        for thing in THINGS:
            if type(thing) is not str:
                self.raises(InvalidWriting, "place", None, read_polynomial, 2, thing)
        for thing in (b"x0", ["x0"], ("x0",), 0, X):
            self.raises(InvalidWriting, "place", None, read_polynomial, 2, thing)

    def test_wrong_arguments(self):
        wrong = tuple(
            (1, value, InvalidWriting, "place", place)
            for value, place in ((None, None), (0, None), (b"0", None), ("", 0), ("x0 x2", 3), ("x0 +", 4), ("?", 0))
        )
        self.all_wrong(read_polynomial, ("many", "writing"), (2, "x0 - 1"), WRONG_MANY + wrong)


class Bounds(Told):
    def test_the_degree(self):
        self.assertEqual(read_polynomial(2, "x0^20 x1^20"), power(20, 20))
        for writing, degree in (
            ("x0^40 x0", 41),
            ("x0^20 x1^21", 41),
            ("x0^40 x1^40", 80),
            ("1 + 1/9 x1^40 x0^2 - x0^40 x0", 42),
            (" ".join(["x0"] * 41), 41),
            (" ".join(["x0^40"] * 3000), 120000),
        ):
            self.raises(TooMany, "given", degree, read_polynomial, 2, writing)

    def test_what_falls_away_does_not_count(self):
        for writing in ("x0^40 x0 - x0^40 x0", "0 x0^40 x1^40", "0/5 x0^40 x1", "1/2 x0^40 x1 - 2/4 x1 x0^40"):
            self.assertEqual(read_polynomial(2, writing), ())
            self.assertEqual(read_polynomial(2, writing + " + x1"), Y)
        self.assertEqual(read_polynomial(2, "x0^40 x0^0"), power(40, 0))

    def test_how_many_terms(self):
        def writing(count, many=2):
            powers = all_powers(many, 40)[:count]
            return " + ".join(f"x0^{first} x1^{second}" for first, second in powers)

        self.assertEqual(len(read_polynomial(2, writing(600))), 600)
        self.raises(TooMany, "given", 601, read_polynomial, 2, writing(601))
        self.raises(TooMany, "given", 700, read_polynomial, 2, writing(700))
        # The degree is told ahead of how many terms there are.
        self.raises(TooMany, "given", 43, read_polynomial, 2, writing(601) + " - x0^40 x1^3")
        # What falls away does not count.
        first = writing(1)
        self.assertEqual(len(read_polynomial(2, writing(601) + " - " + first)), 600)

    def test_refused_ahead_of_too_many(self):
        self.raises(InvalidWriting, "place", 9, read_polynomial, 2, "x0^40 x0 x2")
        self.raises(InvalidWriting, "place", 10, read_polynomial, 2, "x0^40 x0 +")


class Values(unittest.TestCase):
    def test_a_sum_of_many_fractions(self):
        writing = " + ".join(f"1/{below}" for below in range(1, 60))
        total = sum(Fraction(1, below) for below in range(1, 60))
        self.assertEqual(read_polynomial(0, writing), as_terms({(): total}))


if __name__ == "__main__":
    unittest.main()
