"""Point 19: ratios."""

import inspect
import itertools
import random
import unittest
from fractions import Fraction

from blocksearch.errors import NoNumber, NoRatio
from blocksearch.ratios import Ratio, greatest, total
from things import NO_TEXTS, NO_WHOLES

GREAT = 10 ** 300 - 1
TOPS = list(range(-12, 13)) + [GREAT, -GREAT, 2 ** 900, 3 ** 600, 6 ** 380]


def values(ratio):
    return ratio.top, ratio.bottom


def fraction(ratio):
    return Fraction(ratio.top, ratio.bottom)


def some_ratios(chance, many, bound):
    return [Ratio(chance.randrange(-bound, bound), chance.randrange(1, bound)) for _ in range(many)]


class MakeTests(unittest.TestCase):
    def test_lowest_terms_of_either_sign(self):
        for top, bottom in itertools.product(TOPS, repeat=2):
            if bottom != 0:
                due = Fraction(top, bottom)
                self.assertEqual(values(Ratio(top, bottom)), (due.numerator, due.denominator))

    def test_0_above_any_bottom(self):
        for bottom in (1, -1, 7, -7, GREAT, -GREAT):
            self.assertEqual(values(Ratio(0, bottom)), (0, 1))

    def test_the_bottom_left_out(self):
        for top in TOPS:
            self.assertEqual(values(Ratio(top)), (top, 1))
            self.assertEqual(Ratio(top=top), Ratio(bottom=1, top=top))

    def test_300_and_301_figures(self):
        for great in (GREAT, 10 ** 299, -GREAT):
            self.assertEqual(values(Ratio(great)), (great, 1))
            self.assertEqual(values(Ratio(1, great)), (1 if great > 0 else -1, abs(great)))
        for great in (10 ** 300, -10 ** 300, 10 ** 301, 10 ** 399, 10 ** 6000, -10 ** 6000):
            for given in ((great,), (great, 1), (1, great), (great, great), (great, 0), (0, great)):
                with self.assertRaises(NoNumber):
                    Ratio(*given)

    def test_things_that_are_no_numbers(self):
        for thing in NO_WHOLES + [1.0, 0.5, Ratio(1)]:
            for given in ((thing,), (thing, 1), (1, thing), (thing, 0), (thing, thing), (0, thing)):
                with self.assertRaises(NoNumber):
                    Ratio(*given)

    def test_the_bottom_0(self):
        for top in TOPS:
            with self.assertRaises(NoRatio):
                Ratio(top, 0)
        with self.assertRaises(NoNumber):
            Ratio(1, False)

    def test_the_interface(self):
        self.assertLessEqual({"top", "bottom"}, set(vars(Ratio(1, 2))))
        for name in ("plus", "times", "is_less", "__eq__", "__str__", "__repr__"):
            self.assertIn(name, vars(Ratio))
        self.assertEqual(inspect.signature(greatest).parameters["default"].kind, inspect.Parameter.KEYWORD_ONLY)


class AskTests(unittest.TestCase):
    def check(self, one, other):
        together, multiplied = one.plus(other), one.times(other)
        for told, due in ((together, fraction(one) + fraction(other)), (multiplied, fraction(one) * fraction(other))):
            self.assertIsInstance(told, Ratio)
            self.assertEqual(values(told), (due.numerator, due.denominator))
        self.assertIs(one.is_less(other), fraction(one) < fraction(other))
        self.assertIs(one == other, fraction(one) == fraction(other))
        self.assertIs(one != other, fraction(one) != fraction(other))

    def test_small_ones(self):
        ratios = [Ratio(top, bottom) for top in range(-4, 5) for bottom in (1, 2, 3, 4, 6)]
        for one, other in itertools.product(ratios, repeat=2):
            self.check(one, other)

    def test_great_ones(self):
        chance = random.Random(19)
        for one, other in zip(some_ratios(chance, 60, 10 ** 300), some_ratios(chance, 60, 10 ** 300)):
            self.check(one, other)
            self.check(one, one)
            self.check(one.times(one), one.plus(other))
        self.check(Ratio(GREAT), Ratio(GREAT))
        self.check(Ratio(1, GREAT), Ratio(1, GREAT - 1))
        self.check(Ratio(GREAT, GREAT - 1), Ratio(GREAT - 1, GREAT - 2))

    def test_values_of_more_than_300_figures(self):
        square = Ratio(GREAT).times(Ratio(GREAT))
        self.assertEqual(values(square), (GREAT * GREAT, 1))
        self.assertEqual(values(Ratio(GREAT).plus(Ratio(1))), (10 ** 300, 1))
        self.assertEqual(values(square.times(Ratio(1, GREAT))), (GREAT, 1))
        self.assertIs(Ratio(GREAT).is_less(square), True)
        self.assertIs(square.is_less(square), False)
        self.assertIs(square == Ratio(GREAT).times(Ratio(GREAT)), True)
        with self.assertRaises(NoNumber):
            Ratio(square.top)
        with self.assertRaises(NoNumber):
            Ratio(1, square.top)

    def test_an_ask_changes_neither(self):
        one, other = Ratio(1, 2), Ratio(1, 3)
        one.plus(other), one.times(other), one.is_less(other), total([one, other]), greatest([one, other])
        self.assertEqual((values(one), values(other)), ((1, 2), (1, 3)))

    def test_arguments_by_their_names(self):
        self.assertEqual(Ratio(1, 2).plus(other=Ratio(1, 2)), Ratio(1))
        self.assertEqual(Ratio(1, 2).times(other=Ratio(1, 2)), Ratio(1, 4))
        self.assertIs(Ratio(1, 2).is_less(other=Ratio(1)), True)
        self.assertEqual(total(ratios=[Ratio(1)]), Ratio(1))
        self.assertEqual(greatest(default=3, ratios=[Ratio(1)]), Ratio(1))

    def test_a_ratio_equals_nothing_else(self):
        for ratio in (Ratio(0), Ratio(1), Ratio(7), Ratio(3, 4)):
            others = ["", "3/4", "7", (3, 4), 0.75, Fraction(7), Fraction(3, 4), str(ratio), {}, object()]
            for other in NO_TEXTS + others:
                self.assertIs(ratio == other, False)
                self.assertIs(other == ratio, False)
                self.assertIs(ratio != other, True)


class ShownTests(unittest.TestCase):
    def test_str_and_repr(self):
        for ratio, text, row in ((Ratio(3, 4), "3/4", "Ratio(3, 4)"), (Ratio(6, -8), "-3/4", "Ratio(-3, 4)"),
                                 (Ratio(7), "7", "Ratio(7, 1)"), (Ratio(-7, 1), "-7", "Ratio(-7, 1)"),
                                 (Ratio(0, -5), "0", "Ratio(0, 1)"), (Ratio(1, 10), "1/10", "Ratio(1, 10)")):
            self.assertEqual(str(ratio), text)
            self.assertEqual(repr(ratio), row)
            self.assertEqual(repr([ratio]), f"[{row}]")

    def test_figures_of_many_lengths(self):
        for top in [10 ** many + more for many in (59, 60, 61, 119, 120, 121, 180, 299) for more in (-1, 0, 1, 12345)]:
            for sign in (1, -1):
                self.assertEqual(str(Ratio(sign * top)), str(sign * top))
                self.assertEqual(repr(Ratio(sign, top)), f"Ratio({sign}, {top})")

    def test_more_figures_than_python_shows_by_itself(self):
        ratio = Ratio(10 ** 250, 3)
        for _ in range(5):
            ratio = ratio.times(ratio)
        self.assertEqual(str(ratio), "1" + "0" * 8000 + "/" + str(3 ** 32))
        self.assertEqual(repr(ratio), "Ratio(1" + "0" * 8000 + ", " + str(3 ** 32) + ")")
        self.assertEqual(str(ratio.times(Ratio(-(3 ** 32)))), "-1" + "0" * 8000)


class ListTests(unittest.TestCase):
    def test_no_ratios(self):
        self.assertEqual(values(total([])), (0, 1))
        self.assertIsInstance(total([]), Ratio)
        self.assertIsNone(greatest([]))
        self.assertIsNone(greatest([], default=None))
        for thing in NO_TEXTS + NO_WHOLES + ["", "a", Ratio(1)]:
            told = greatest([], default=thing)
            self.assertEqual(told, thing)
            self.assertEqual(repr(told), repr(thing))

    def test_a_default_is_not_told_of_some(self):
        self.assertEqual(greatest([Ratio(-5)], default=Ratio(3)), Ratio(-5))
        self.assertEqual(greatest([Ratio(0)], default="a"), Ratio(0))

    def test_lists_of_a_default_are_the_askers_own(self):
        inner = [1]
        default = [inner, (inner, [2]), inner]
        told = greatest([], default=default)
        self.assertEqual(told, default)
        told[0].append(5)
        told[1][1].append(6)
        told.append(7)
        self.assertEqual(default, [[1], ([1], [2]), [1]])
        self.assertEqual(told, [[1, 5], ([1], [2, 6]), [1], 7])

    def test_one_and_like_ones(self):
        one = Ratio(-3, 4)
        self.assertEqual((total([one]), greatest([one])), (one, one))
        self.assertEqual((total([one] * 4), greatest([one] * 4)), (Ratio(-3), one))
        self.assertEqual(greatest([Ratio(1, 2), Ratio(2, 4), Ratio(1, 3)]), Ratio(1, 2))

    def test_the_greatest_at_each_place(self):
        for ratios in itertools.permutations([Ratio(-1), Ratio(0), Ratio(1, 3), Ratio(2, 3), Ratio(2, 3)]):
            given = list(ratios)
            self.assertEqual(greatest(given), Ratio(2, 3))
            self.assertEqual(total(given), Ratio(2, 3))
            self.assertEqual(given, list(ratios))

    def test_many(self):
        chance = random.Random(91)
        for many in list(range(8)) + [40]:
            for bound in (5, 100, 10 ** 300):
                ratios = some_ratios(chance, many, bound)
                due = sum([fraction(one) for one in ratios], Fraction(0))
                self.assertEqual(values(total(ratios)), (due.numerator, due.denominator))
                if ratios:
                    self.assertEqual(fraction(greatest(ratios)), max([fraction(one) for one in ratios]))


if __name__ == "__main__":
    unittest.main()
