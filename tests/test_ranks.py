"""Points 20, 21 and 22: shelves, figures, shares, bounds, ranks."""

import random
import unittest
from fractions import Fraction

from blocksearch.errors import NoNumber, NoQuery, NoShelf, NoWord
from blocksearch.meaning import matches
from blocksearch.pages import Page
from blocksearch.ranks import Figures, bound, rank, share
from blocksearch.ratios import Ratio
from blocksearch.rows import Row
from blocksearch.segments import Segment
from plain import (figures_plainly, rank_plainly, share_plainly, some_page, some_query, some_shelf, standing,
                   wanted_plainly)
from things import NO_QUERIES, NO_TEXTS, NO_WHOLES, NO_WORDS

A, B, C, D = [("word", letter) for letter in "abcd"]
ONE = Segment([Page(1, "a b"), Page(2, "a a c"), Page(3)])
TWO = Segment([Page(2, "b b"), Page(4, "a d d d")], size=1)
SHELF = [(ONE, [1]), (TWO, [])]


def value(ratio):
    return Fraction(ratio.top, ratio.bottom)


def one_page_segments(many):
    return [(Segment([Page(number, "a")]), []) for number in range(1, many + 1)]


class ShelfTests(unittest.TestCase):
    def wrong(self, shelf, at):
        with self.assertRaises(NoShelf) as caught:
            Figures(shelf)
        self.assertEqual(caught.exception.at, at)

    def test_what_is_no_list(self):
        things = [one for one in NO_TEXTS if not isinstance(one, list)]
        for thing in things + ["", "a", tuple(SHELF), ONE, SHELF[0], ()]:
            self.wrong(thing, None)

    def test_none_eight_and_nine(self):
        self.assertEqual(Figures([]).pages_in_all, 0)
        self.assertEqual(Figures(one_page_segments(8)).pages_in_all, 8)
        for shelf in (one_page_segments(9), [None] * 9, one_page_segments(8) + [None], one_page_segments(1) * 9):
            self.wrong(shelf, None)

    def test_tuples_that_are_none_at_each_place(self):
        wrong = NO_TEXTS + ["", "a", ONE, [ONE, []], (ONE,), (ONE, [], []), (), ([], ONE), (None, []), (ONE, None),
                            (ONE, ()), (ONE, (1,)), (ONE, "0"), (ONE, 0), ([ONE], []), (Page(9), []), ("a", [])]
        for thing in wrong:
            for at in range(3):
                shelf = [(TWO, []), (Segment([Page(50)]), [0])]
                shelf.insert(at, thing)
                self.wrong(shelf, at)

    def test_gone_slots_that_are_none(self):
        for gone in ([1, 0], [0, 0], [0, 1, 1], [3], [0, 3], [-1], [-1, 0], [10 ** 60], [True], [False], [0, True],
                     [False, 1], [None], ["0"], [[0]], [(0,)], [0, 1, 2, 3], [2, 1]):
            self.wrong([(ONE, gone)], 0)
            self.wrong([(TWO, []), (ONE, gone)], 1)
        for gone in ([], [0], [1], [2], [0, 2], [0, 1, 2]):
            self.assertEqual(Figures([(ONE, gone)]).pages_in_all, 3 - len(gone))

    def test_a_number_that_stands_in_two_segments(self):
        self.wrong([(ONE, []), (TWO, [])], 1)
        self.wrong([(TWO, []), (ONE, [])], 1)
        self.wrong([(ONE, []), (ONE, [])], 1)
        self.wrong([(ONE, []), (Segment([Page(70)]), []), (TWO, [])], 2)
        self.wrong([(ONE, []), (TWO, []), None], 1)
        self.wrong([(ONE, []), None, (TWO, [])], 1)

    def test_a_number_that_stands_in_one_and_is_gone_in_the_other(self):
        for shelf in ([(ONE, [1]), (TWO, [])], [(ONE, []), (TWO, [0])], [(TWO, [0]), (ONE, [])],
                      [(ONE, [1]), (TWO, [0])], [(ONE, [0, 1, 2]), (ONE, []), (ONE, [0, 1, 2])]):
            Figures(shelf)

    def test_what_is_refused_changes_nothing(self):
        shelf = [(ONE, [1]), (TWO, []), None]
        self.wrong(shelf, 2)
        self.assertEqual(shelf, [(ONE, [1]), (TWO, []), None])


class FiguresTests(unittest.TestCase):
    def test_an_ordinary_shelf(self):
        figures = Figures(SHELF)
        self.assertEqual((figures.pages_in_all, figures.words_in_all), (4, 8))
        self.assertEqual([figures.holders(word) for word in "abcdz"], [2, 2, 0, 1, 0])

    def test_the_empty_shelf_and_all_slots_gone(self):
        for shelf in ([], [(ONE, [0, 1, 2])], [(ONE, [0, 1, 2]), (TWO, [0, 1])]):
            figures = Figures(shelf)
            self.assertEqual((figures.pages_in_all, figures.words_in_all), (0, 0))
            self.assertEqual([figures.holders(word) for word in "abcdz"], [0] * 5)

    def test_a_word_that_no_page_that_stands_has(self):
        self.assertEqual(Figures([(ONE, [])]).holders("c"), 1)
        self.assertEqual(Figures([(ONE, [1])]).holders("c"), 0)

    def test_what_is_no_word(self):
        for figures in (Figures(SHELF), Figures([])):
            for thing in NO_WORDS:
                with self.assertRaises(NoWord):
                    figures.holders(thing)

    def test_many_shelves(self):
        chance = random.Random(20)
        for _ in range(150):
            shelf, stands = some_shelf(chance)
            figures = Figures(shelf)
            for word in "abcdz":
                told = figures.pages_in_all, figures.words_in_all, figures.holders(word)
                self.assertEqual(told, figures_plainly(stands, word))
                self.assertEqual(figures.holders(word), told[2])

    def test_the_shelf_is_neither_changed_nor_kept(self):
        gone = [1]
        shelf = [(ONE, gone), (TWO, [])]
        figures = Figures(shelf)
        self.assertEqual(shelf, SHELF)
        gone.append(2)
        gone[0] = 0
        shelf.clear()
        self.assertEqual((figures.pages_in_all, figures.words_in_all), (4, 8))
        self.assertEqual([figures.holders(word) for word in "abcdz"], [2, 2, 0, 1, 0])

    def test_two_figures_know_nothing_of_one_another(self):
        one, other = Figures([(ONE, [])]), Figures([(ONE, [0, 1])])
        self.assertEqual([one.holders("a"), other.holders("a"), one.holders("a")], [2, 0, 2])

    def test_the_interface(self):
        self.assertLessEqual({"pages_in_all", "words_in_all"}, set(vars(Figures(shelf=SHELF))))
        self.assertIn("holders", vars(Figures))
        self.assertEqual(Figures(SHELF).holders(word="a"), 2)


class ShareTests(unittest.TestCase):
    def test_an_ordinary_share(self):
        # N is 4, L is 8, d is 2: 5/2 times 16 / (16 + 8 + 12).
        self.assertEqual(share(Figures(SHELF), "a", 2, 3), Ratio(10, 9))

    def test_0_of_t_or_d(self):
        figures = Figures(SHELF)
        for length in (0, 1, 120):
            self.assertEqual(share(figures, "a", 0, length), Ratio(0))
            self.assertEqual(share(figures, "z", 3, length), Ratio(0))
            self.assertEqual(share(figures, "z", 0, length), Ratio(0))
            self.assertEqual(share(Figures([]), "a", 3, length), Ratio(0))
            self.assertEqual(share(Figures([(Segment([Page(1)]), [])]), "a", 3, length), Ratio(0))

    def test_all_counts(self):
        figures, stands = Figures(SHELF), standing(SHELF)
        for often in (0, 1, 2, 3, 7, 60, 119, 120):
            for length in (0, 1, 2, 5, 119, 120):
                told = share(figures, "b", often, length)
                self.assertIsInstance(told, Ratio)
                self.assertEqual(value(told), share_plainly(stands, "b", often, length))

    def test_it_rises_with_t_and_falls_as_m_grows(self):
        figures = Figures(SHELF)
        for at in range(1, 120):
            self.assertIs(share(figures, "a", at, 9).is_less(share(figures, "a", at + 1, 9)), True)
            self.assertIs(share(figures, "a", 9, at + 1).is_less(share(figures, "a", 9, at)), True)

    def test_what_is_no_word_and_no_number(self):
        figures = Figures(SHELF)
        numbers = NO_WHOLES + [-1, 121, 122, 10 ** 60]
        for thing in NO_WORDS:
            for often, length in ((1, 1), (121, 1), (1, None), (True, False), (0, 0)):
                with self.assertRaises(NoWord):
                    share(figures, thing, often, length)
        for thing in numbers:
            for word in ("a", "z"):
                for often, length in ((thing, 1), (1, thing), (0, thing), (thing, 0), (thing, thing)):
                    with self.assertRaises(NoNumber):
                        share(figures, word, often, length)
                    with self.assertRaises(NoNumber):
                        share(Figures([]), word, often, length)

    def test_arguments_by_their_names(self):
        self.assertEqual(share(length=3, often=2, word="a", figures=Figures(SHELF)), Ratio(10, 9))


class BoundTests(unittest.TestCase):
    def test_most_and_least_of_whichever_entries(self):
        row = Row("a", [(0, (0, 1, 2)), (1, (0,)), (2, (0,))], [50, 7, 9], size=2)
        figures = Figures(SHELF)
        self.assertEqual([bound(figures, row, block) for block in row.blocks()],
                         [share(figures, "a", 3, 7), share(figures, "a", 1, 9)])
        self.assertEqual(bound(block=row.blocks()[1], row=row, figures=figures), share(figures, "a", 1, 9))

    def test_a_word_that_none_has(self):
        row = Row("zz", [(0, (0,))], [1])
        self.assertEqual(bound(Figures(SHELF), row, row.blocks()[0]), Ratio(0))

    def test_no_share_of_an_entrys_page_is_greater(self):
        chance = random.Random(21)
        met = 0
        for _ in range(60):
            shelf, stands = some_shelf(chance)
            figures = Figures(shelf)
            for segment, gone in shelf:
                for word in segment.words():
                    row = segment.row(word)
                    entries = row.entries()
                    for block in row.blocks():
                        most = bound(figures, row, block)
                        for slot, places in [entries.pop(0) for _ in range(len(block))]:
                            told = share(figures, word, len(places), segment.lengths()[slot])
                            self.assertIs(most.is_less(told), False)
                            met += most == told
        self.assertGreater(met, 100)


class RankTests(unittest.TestCase):
    def test_a_word_wanted_twice(self):
        figures, page = Figures(SHELF), Page(1, "a b")
        one = rank(figures, A, page)
        self.assertEqual(one, share(figures, "a", 1, 2))
        self.assertEqual(rank(figures, ("and", A, A), page), one.plus(one))
        self.assertEqual(rank(figures, ("near", 3, "a", "a"), page), one.plus(one))
        self.assertEqual(rank(figures, ("phrase", "a", "b", "a"), page), one.plus(one).plus(share(figures, "b", 1, 2)))

    def test_words_of_the_second_query_of_a_but(self):
        figures, page = Figures(SHELF), Page(1, "a b")
        self.assertEqual(rank(figures, ("but", A, B), page), rank(figures, A, page))
        self.assertEqual(rank(figures, ("and", B, ("but", A, ("or", B, B))), page), rank(figures, ("or", A, B), page))

    def test_a_page_that_does_not_stand(self):
        figures = Figures(SHELF)
        self.assertEqual(rank(figures, A, Page(77, "a x a")), share(figures, "a", 2, 3))
        self.assertEqual(rank(figures, C, Page(2, "a a c")), Ratio(0))
        self.assertEqual(rank(Figures([]), A, Page(2, "a a c")), Ratio(0))
        self.assertEqual(rank(figures, A, Page(9)), Ratio(0))

    def test_what_is_no_query(self):
        for thing in NO_QUERIES:
            with self.assertRaises(NoQuery):
                rank(Figures(SHELF), thing, Page(1, "a"))

    def test_many(self):
        chance = random.Random(22)
        for _ in range(150):
            shelf, stands = some_shelf(chance)
            figures, query = Figures(shelf), some_query(chance)
            for page in stands + [some_page(chance, 1)]:
                told = rank(figures, query, page)
                self.assertEqual(value(told), rank_plainly(stands, query, page))
            for page in stands:
                if matches(query, page):
                    self.assertGreater(rank(figures, query, page).top, 0)

    def test_arguments_by_their_names(self):
        figures = Figures(SHELF)
        self.assertEqual(rank(page=Page(77, "a x a"), query=A, figures=figures), share(figures, "a", 2, 3))

    def test_nothing_is_changed(self):
        query, page = ("but", ("phrase", "a", "b"), C), Page(1, "a b")
        rank(Figures(SHELF), query, page)
        self.assertEqual((query, page), (("but", ("phrase", "a", "b"), C), Page(1, "a b")))
        self.assertEqual(wanted_plainly(query), ["a", "b"])


if __name__ == "__main__":
    unittest.main()
