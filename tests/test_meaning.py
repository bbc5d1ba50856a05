"""Point 14: what matches, and which places are told."""

import random
import unittest

from blocksearch.errors import NoQuery
from blocksearch.meaning import matches, places_of
from blocksearch.pages import Page
from blocksearch.queries import is_query
from plain import deepness, matches_plainly, places, some_page, some_query
from things import NO_QUERIES

A, B, C, D = [("word", letter) for letter in "abcd"]
PAGE = Page(7, "a b a c a b")
EMPTY = Page(1)


class PlaceTests(unittest.TestCase):
    def told(self, query, text, expected):
        page = Page(9, text)
        self.assertEqual(places_of(query, page), expected)
        self.assertIs(matches(query, page), expected != [])
        self.assertEqual(places(query, page), expected)

    def test_words(self):
        self.told(A, "a b a c a b", [0, 2, 4])
        self.told(C, "a b a c a b", [3])
        self.told(D, "a b a c a b", [])
        self.told(A, "aa ab ba", [])

    def test_phrases(self):
        self.told(("phrase", "a", "b"), "a b a c a b", [0, 4])
        self.told(("phrase", "b", "a"), "a b a c a b", [1])
        self.told(("phrase", "b", "c"), "a b a c a b", [])
        self.told(("phrase", "a", "b", "a", "c", "a"), "a b a c a b", [0])
        self.told(("phrase", "b", "a", "c", "a", "b"), "a b a c a b", [1])

    def test_a_phrase_that_overlaps_itself(self):
        self.told(("phrase", "a", "a"), "a a a a", [0, 1, 2])
        self.told(("phrase", "a", "b", "a"), "a b a b a b a", [0, 2, 4])
        self.told(("phrase", "a", "a", "a", "a", "a"), "a a a a a a", [0, 1])

    def test_a_phrase_at_the_end_and_one_word_short_of_it(self):
        self.told(("phrase", "a", "b", "c"), "c b a b c", [2])
        self.told(("phrase", "a", "b", "c"), "c b c a b", [])
        self.told(("phrase", "a", "b", "c"), "a b", [])
        self.told(("phrase", "a", "b", "c"), "a b c", [0])
        self.told(("phrase", "a", "b", "c"), "b c", [])
        self.told(("phrase", "a", "b"), "a", [])
        self.told(("phrase", "a", "b"), "b a", [])

    def test_nears_in_either_order(self):
        self.told(("near", 1, "a", "b"), "a b a c a b", [(0, 1), (2, 1), (4, 5)])
        self.told(("near", 1, "b", "a"), "a b a c a b", [(1, 0), (1, 2), (5, 4)])
        self.told(("near", 2, "a", "c"), "c b a", [(2, 0)])
        self.told(("near", 2, "c", "a"), "c b a", [(0, 2)])

    def test_the_pairs_rise(self):
        self.told(("near", 3, "a", "b"), "b a b a", [(1, 0), (1, 2), (3, 0), (3, 2)])
        self.told(("near", 2, "a", "b"), "b a b a", [(1, 0), (1, 2), (3, 2)])

    def test_far_1_and_20(self):
        self.told(("near", 1, "a", "b"), "a c b", [])
        self.told(("near", 2, "a", "b"), "a c b", [(0, 2)])
        for between, met in ((18, True), (19, True), (20, False)):
            text = "a" + " c" * between + " b"
            self.told(("near", 20, "a", "b"), text, [(0, between + 1)] if met else [])
            self.told(("near", 20, "b", "a"), text, [(between + 1, 0)] if met else [])

    def test_near_of_a_word_with_itself(self):
        self.told(("near", 1, "a", "a"), "a", [])
        self.told(("near", 20, "a", "a"), "b a b", [])
        self.told(("near", 1, "a", "a"), "a a", [(0, 1), (1, 0)])
        self.told(("near", 2, "a", "a"), "a b a a", [(0, 2), (2, 0), (2, 3), (3, 2)])

    def test_a_page_without_words(self):
        for query in (A, ("phrase", "a", "b"), ("near", 20, "a", "a")):
            self.told(query, "", [])

    def test_a_page_of_120_words(self):
        text = " ".join(["a"] * 120)
        self.told(A, text, list(range(120)))
        self.told(("phrase", "a", "a", "a", "a", "a"), text, list(range(116)))
        self.told(("near", 1, "a", "a"), text, sorted([(at, at + 1) for at in range(119)]
                                                       + [(at + 1, at) for at in range(119)]))

    def test_many_pages(self):
        chance = random.Random(14)
        for _ in range(1500):
            page = some_page(chance, 5, "ab" if chance.randrange(2) else "abc", 14)
            query = some_query(chance, "abc", deep=1)
            told = places_of(query, page)
            self.assertEqual(told, places(query, page), (query, page))
            self.assertEqual(told, sorted(told))
            self.assertIs(matches(query, page), told != [])

    def test_each_list_is_a_new_one(self):
        for query in (A, ("phrase", "a", "b"), ("near", 1, "a", "b")):
            told = places_of(query, PAGE)
            told.append(99)
            self.assertEqual(places_of(query, PAGE), places(query, PAGE))
        self.assertEqual(PAGE.places("a"), [0, 2, 4])


class JoinedTests(unittest.TestCase):
    def test_ands_ors_and_buts(self):
        for query, told in (
            (("and", A, B), True), (("and", A, D), False), (("and", D, A), False), (("and", A, B, C, A), True),
            (("and", A, B, C, D), False), (("or", D, A), True), (("or", A, D), True), (("or", D, D), False),
            (("or", D, D, D, C), True), (("but", A, D), True), (("but", A, B), False), (("but", D, B), False),
            (("but", D, D), False),
        ):
            self.assertIs(matches(query, PAGE), told, query)

    def test_a_but_within_a_but(self):
        for query, told in (
            (("but", A, ("but", B, D)), False), (("but", A, ("but", B, C)), True), (("but", A, ("but", D, B)), True),
            (("but", ("but", A, D), D), True), (("but", ("but", A, B), D), False), (("but", ("but", A, D), B), False),
            (("but", A, ("but", B, ("but", C, D))), True), (("but", A, ("but", B, ("but", C, B))), False),
        ):
            self.assertIs(matches(query, PAGE), told, query)

    def test_an_or_within_an_and(self):
        self.assertIs(matches(("and", ("or", D, A), ("or", C, D)), PAGE), True)
        self.assertIs(matches(("and", ("or", D, A), ("or", D, D)), PAGE), False)
        self.assertIs(matches(("or", ("and", A, D), ("and", B, C)), PAGE), True)
        self.assertIs(matches(("or", ("and", A, D), ("and", D, C)), PAGE), False)

    def test_phrases_and_nears_within_others(self):
        self.assertIs(matches(("but", ("phrase", "a", "b"), ("near", 1, "b", "c")), PAGE), True)
        self.assertIs(matches(("but", ("phrase", "a", "b"), ("near", 2, "b", "c")), PAGE), False)

    def test_a_page_without_words(self):
        for query in (("and", A, B), ("or", A, B), ("but", A, B), ("or", A, ("but", B, C))):
            self.assertIs(matches(query, EMPTY), False)

    def test_many_queries(self):
        chance = random.Random(41)
        deeps, told = set(), []
        for _ in range(3000):
            query = some_query(chance, "abc")
            self.assertTrue(is_query(query), query)
            deeps.add(deepness(query))
            page = some_page(chance, 5, "abc", 6)
            told.append(matches(query, page))
            self.assertIs(told[-1], matches_plainly(query, page), (query, page))
        self.assertEqual(deeps, {1, 2, 3, 4, 5})
        self.assertGreater(min(told.count(True), told.count(False)), 300)


class RefusalTests(unittest.TestCase):
    def test_joined_queries_have_no_places(self):
        for query in (("and", A, B), ("or", A, B), ("but", A, B), ("and", A, ("or", B, C)), ("but", ("and", A, B), C)):
            with self.assertRaises(NoQuery):
                places_of(query, PAGE)

    def test_what_is_no_query(self):
        chance = random.Random(4)
        wrong = [("and", A), ("but", A, B, C), ("and", A, A, A, A, A), ("near", 0, "a", "b"), ("near", 21, "a", "b"),
                 ("phrase", "a"), ("phrase", *"aaaaaa"),
                 ("or", ("and", *[A] * 4), ("phrase", *"abcde"), B, ("and", C, B, A))]
        for thing in NO_QUERIES + wrong:
            with self.assertRaises(NoQuery):
                matches(thing, chance.choice([PAGE, EMPTY]))
            with self.assertRaises(NoQuery):
                places_of(thing, chance.choice([PAGE, EMPTY]))

    def test_a_wrong_query_behind_one_that_tells_already(self):
        for thing in (("or", A, ("word", "A")), ("and", D, ("word", 1)), ("but", D, None)):
            with self.assertRaises(NoQuery):
                matches(thing, PAGE)

    def test_arguments_by_their_names(self):
        self.assertIs(matches(page=PAGE, query=A), True)
        self.assertEqual(places_of(page=PAGE, query=A), [0, 2, 4])

    def test_nothing_is_changed(self):
        page = Page(7, "a b a")
        query = ("but", ("near", 2, "a", "a"), C)
        matches(query, page)
        self.assertEqual(page, Page(7, "a b a"))
        self.assertEqual(query, ("but", ("near", 2, "a", "a"), C))


if __name__ == "__main__":
    unittest.main()
