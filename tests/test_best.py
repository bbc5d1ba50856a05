"""Points 25 and 26: the best, and the best of pages by the plain way."""

import inspect
import itertools
import random
import unittest
from fractions import Fraction

from blocksearch.best import MANY, MOST, Best, best_plain
from blocksearch.errors import Held, NoNumber, NoPages, NoQuery, NoSize
from blocksearch.pages import Page
from blocksearch.ratios import Ratio
from plain import best_by_sorting, some_pages, some_query
from things import NO_QUERIES, NO_TEXTS, NO_WHOLES

A, B, C, D = [("word", letter) for letter in "abcd"]
PAGES = [Page(7, "a b a"), Page(3), Page(5, "b c"), Page(9999, "a a a a")]
HALF, THIRD = Ratio(1, 2), Ratio(1, 3)


def value(ratio):
    return Fraction(ratio.top, ratio.bottom)


def filled(k, *rows):
    best = Best(k)
    for number, ratio in rows:
        best.put(number, ratio)
    return best


class PlainBest:
    """The plain reading of point 25: all that is held is sorted anew with each put."""

    def __init__(self, k):
        self.k = k
        self.held = []

    def put(self, number, ratio):
        if number in [held for held, worth in self.held]:
            return Held, number
        ranked = sorted(self.held + [(number, ratio)], key=lambda row: (-value(row[1]), row[0]))
        self.held = ranked[:self.k]
        return (number, ratio) in self.held

    def floor(self):
        return self.held[self.k - 1] if 0 < self.k == len(self.held) else None


class MakeTests(unittest.TestCase):
    def test_constants(self):
        self.assertEqual((MANY, MOST), (10, 200))

    def test_k(self):
        self.assertEqual(Best().k, 10)
        for k in (0, 1, 10, 199, 200):
            self.assertEqual(Best(k).k, k)
            self.assertEqual(Best(k=k), Best(k))
            self.assertEqual(len(Best(k)), 0)
        for k in NO_WHOLES + [-1, 201, 202, 10 ** 60]:
            with self.assertRaises(NoSize):
                Best(k)

    def test_the_interface(self):
        self.assertIn("k", vars(Best()))
        for name in ("put", "would_hold", "told", "floor", "__len__", "__eq__", "__repr__"):
            self.assertIn(name, vars(Best))


class PutTests(unittest.TestCase):
    def test_the_greater_ratio_goes_ahead(self):
        rows = [(7, Ratio(1, 2)), (3, Ratio(2, 3)), (9, Ratio(-1)), (4, Ratio(0))]
        for given in itertools.permutations(rows):
            self.assertEqual(filled(9, *given).told(), [rows[1], rows[0], rows[3], rows[2]])
            self.assertEqual(filled(2, *given).told(), [rows[1], rows[0]])

    def test_of_like_ratios_the_lesser_number(self):
        rows = [(number, Ratio(2, 4)) for number in (2, 5, 7, 9999)]
        for given in itertools.permutations(rows):
            self.assertEqual(filled(9, *given).told(), rows)
            self.assertEqual(filled(2, *given).told(), rows[:2])

    def test_put_tells_whether_it_is_held_then(self):
        best = Best(2)
        rows = [(5, HALF), (6, HALF), (7, HALF), (8, THIRD), (4, HALF), (9, Ratio(1))]
        self.assertEqual([best.put(*row) for row in rows], [True, True, False, False, True, True])
        self.assertEqual(best.told(), [(9, Ratio(1)), (4, HALF)])

    def test_k_0(self):
        best = Best(0)
        for number in (5, 5, 6):
            self.assertIs(best.would_hold(number, HALF), False)
            self.assertIs(best.put(number, HALF), False)
        self.assertEqual((best.told(), len(best), best.floor()), ([], 0, None))

    def test_a_held_number_is_refused_whatever_the_ratio(self):
        best = filled(2, (5, HALF), (6, THIRD))
        for ratio in (HALF, THIRD, Ratio(0), Ratio(-9), Ratio(9)):
            for number in (5, 6):
                for ask in (best.put, best.would_hold):
                    with self.assertRaises(Held) as caught:
                        ask(number, ratio)
                    self.assertEqual(caught.exception.number, number)
        self.assertEqual(best.told(), [(5, HALF), (6, THIRD)])

    def test_one_that_fell_out_or_was_not_let_in_is_put_again(self):
        best = filled(1, (5, THIRD))
        self.assertIs(best.put(6, HALF), True)
        self.assertIs(best.would_hold(5, THIRD), False)
        self.assertIs(best.put(5, THIRD), False)
        self.assertIs(best.put(5, THIRD), False)
        self.assertIs(best.put(5, Ratio(1)), True)
        self.assertIs(best.put(6, Ratio(2)), True)
        self.assertEqual(best.told(), [(6, Ratio(2))])

    def test_what_is_no_number(self):
        best = filled(3, (1, HALF))
        for number in NO_WHOLES + [0, -1, 10000, 10 ** 60]:
            for ask in (best.put, best.would_hold):
                with self.assertRaises(NoNumber):
                    ask(number, HALF)
        # True is like 1, which is held: still it is no number.
        self.assertEqual(best.told(), [(1, HALF)])
        with self.assertRaises(NoNumber):
            Best(0).put(0, HALF)

    def test_numbers_1_and_9999(self):
        best = Best()
        self.assertEqual([best.put(1, HALF), best.put(9999, HALF)], [True, True])

    def test_arguments_by_their_names(self):
        best = Best(1)
        self.assertIs(best.would_hold(ratio=HALF, number=4), True)
        self.assertIs(best.put(ratio=HALF, number=4), True)

    def test_floor(self):
        best = Best(2)
        self.assertIsNone(best.floor())
        best.put(5, HALF)
        self.assertIsNone(best.floor())
        best.put(4, HALF)
        self.assertEqual(best.floor(), (5, HALF))
        best.put(9, Ratio(7))
        self.assertEqual(best.floor(), (4, HALF))
        self.assertIsInstance(best.floor(), tuple)

    def test_many_histories(self):
        chance = random.Random(25)
        for _ in range(300):
            k = chance.randrange(6)
            best, due = Best(k), PlainBest(k)
            for _ in range(25):
                number, ratio = chance.randrange(1, 12), Ratio(chance.randrange(-1, 4), chance.randrange(1, 3))
                outcomes = []
                for ask in (best.would_hold, best.put):
                    ahead = best.told()
                    try:
                        outcomes.append(ask(number, ratio))
                    except Held as held:
                        outcomes.append((Held, held.number))
                    if ask == best.would_hold:
                        self.assertEqual(best.told(), ahead)
                told = due.put(number, ratio)
                self.assertEqual(outcomes, [told, told])
                self.assertEqual((best.told(), len(best), best.floor()), (due.held, len(due.held), due.floor()))

    def test_two_hundred(self):
        best = Best(MOST)
        for number in range(1, 301):
            self.assertIs(best.put(number, Ratio(number % 7)), best.floor() is None or number in dict(best.told()))
        due = sorted(range(1, 301), key=lambda number: (-(number % 7), number))[:200]
        self.assertEqual([number for number, ratio in best.told()], due)

    def test_told_lists_are_the_askers_own(self):
        best = filled(2, (5, HALF), (6, THIRD))
        told = best.told()
        told.clear()
        best.told().append((7, HALF))
        self.assertEqual(best.told(), [(5, HALF), (6, THIRD)])
        self.assertEqual(len(best), 2)

    def test_a_ratio_changed_behind_the_call(self):
        ratio = Ratio(1, 2)
        best = filled(2, (7, ratio), (5, THIRD))
        ratio.top = 0
        self.assertEqual(best.told(), [(7, HALF), (5, THIRD)])
        self.assertIs(best.would_hold(9, Ratio(2, 5)), True)

    def test_two_bests_know_nothing_of_one_another(self):
        one, other = Best(2), Best(2)
        one.put(5, HALF)
        self.assertEqual((one.told(), other.told()), ([(5, HALF)], []))


class EqualTests(unittest.TestCase):
    def unlike(self, one, other):
        self.assertIs(one == other, False)
        self.assertIs(other == one, False)
        self.assertIs(one != other, True)

    def test_the_same(self):
        self.assertIs(Best() == Best(10), True)
        one = filled(2, (5, HALF), (6, THIRD))
        self.assertIs(one == filled(2, (6, THIRD), (5, Ratio(2, 4))), True)
        self.assertIs(one == filled(2, (8, Ratio(0)), (6, THIRD), (5, HALF)), True)
        self.assertIs(one != filled(2, (5, HALF), (6, THIRD)), False)

    def test_another_k_and_others_held(self):
        one = filled(2, (5, HALF), (6, THIRD))
        self.unlike(one, filled(3, (5, HALF), (6, THIRD)))
        self.unlike(one, filled(2, (5, HALF)))
        self.unlike(one, filled(2, (5, HALF), (7, THIRD)))
        self.unlike(one, filled(2, (5, HALF), (6, Ratio(1, 4))))
        self.unlike(Best(0), Best(1))

    def test_other_things(self):
        best = filled(2, (5, HALF))
        for other in NO_TEXTS + ["", repr(best), best.told(), (2, best.told()), HALF, {}, object()]:
            self.unlike(best, other)
            self.unlike(Best(0), other)

    def test_repr(self):
        self.assertEqual(repr(filled(3, (7, Ratio(3, 4)))), "Best(3, [(7, Ratio(3, 4))])")
        self.assertEqual(repr(Best(0)), "Best(0, [])")
        self.assertEqual(repr(filled(2, (7, Ratio(3)), (8, HALF))), "Best(2, [(7, Ratio(3, 1)), (8, Ratio(1, 2))])")


class BestPlainTests(unittest.TestCase):
    def wrong(self, pages, at):
        with self.assertRaises(NoPages) as caught:
            best_plain(pages, A)
        self.assertEqual(caught.exception.at, at)

    def test_ordinary_pages(self):
        # N is 4, L is 9; a stands in 2 pages, so a share is 5/2 times 9 t / (9 t + 9 + 4 m).
        self.assertEqual(best_plain(PAGES, A).told(), [(9999, Ratio(5 * 36, 2 * 61)), (7, Ratio(5 * 18, 2 * 39))])
        self.assertEqual(best_plain(PAGES, A, k=1), filled(1, (9999, Ratio(90, 61))))
        self.assertEqual(best_plain(PAGES, ("but", B, A)).told(), [(5, Ratio(5 * 9, 2 * 26))])
        self.assertEqual(best_plain(PAGES, D).told(), [])
        self.assertEqual(best_plain(PAGES, A).k, 10)

    def test_no_pages(self):
        self.assertEqual(best_plain([], A), Best(10))
        self.assertEqual(best_plain([Page(1)], A, k=3), Best(3))

    def test_like_ranks_by_number(self):
        pages = [Page(number, "a b") for number in (8, 2, 5)]
        self.assertEqual([number for number, ratio in best_plain(pages, A, k=2).told()], [2, 5])

    def test_480_and_481_pages(self):
        pages = [Page(number, "a " * (number % 5) + "b") for number in range(1, 482)]
        told = best_plain(pages[:480], A, k=200)
        self.assertEqual(len(told), 200)
        self.assertEqual([(number, value(ratio)) for number, ratio in told.told()][:5],
                         [(4 + 5 * at, value(told.told()[0][1])) for at in range(5)])
        for wrong in (pages, [None] * 481, pages[:480] + [None], pages[:1] * 481):
            self.wrong(wrong, None)

    def test_what_is_no_list_of_pages(self):
        for thing in [one for one in NO_TEXTS if not isinstance(one, list)] + ["", "a", tuple(PAGES), PAGES[0]]:
            self.wrong(thing, None)
        for thing in NO_TEXTS + ["", "a", (1, "a")]:
            for at in range(5):
                self.wrong(PAGES[:at] + [thing] + PAGES[at:], at)

    def test_pages_of_like_numbers(self):
        for first, second in itertools.combinations(range(5), 2):
            pages = list(PAGES)
            pages.insert(first, Page(8, "x"))
            pages.insert(second, Page(8, "y"))
            self.wrong(pages, second)
        self.wrong([Page(1), Page(1), None], 1)

    def test_several_things_wrong_at_once(self):
        for thing in NO_QUERIES:
            with self.assertRaises(NoQuery):
                best_plain(PAGES, thing)
        for k in NO_WHOLES + [-1, 201]:
            for pages in (PAGES, []):
                with self.assertRaises(NoSize):
                    best_plain(pages, A, k=k)
        for pages, query, k, error in (
            (None, None, None, NoPages), (None, A, None, NoPages), ([None], None, 3, NoPages),
            ([], None, None, NoQuery), (PAGES, ("word", "A"), 201, NoQuery),
        ):
            with self.assertRaises(error):
                best_plain(k=k, query=query, pages=pages)

    def test_k_goes_by_its_name_alone(self):
        with self.assertRaises(TypeError):
            best_plain(PAGES, A, 3)
        self.assertEqual(inspect.signature(best_plain).parameters["k"].kind, inspect.Parameter.KEYWORD_ONLY)

    def test_against_sorting(self):
        chance = random.Random(26)
        for _ in range(200):
            pages = some_pages(chance, chance.randrange(25), "abc", 8)
            query, k = some_query(chance, "abcd"), chance.choice([0, 1, 2, 5, 200])
            given = list(pages)
            told = best_plain(given, query, k=k)
            held = [(number, value(ratio)) for number, ratio in told.told()]
            self.assertEqual(held, best_by_sorting(pages, query, k))
            self.assertEqual((told.k, given), (k, pages))


if __name__ == "__main__":
    unittest.main()
