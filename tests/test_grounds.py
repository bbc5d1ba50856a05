"""Points 44 and 45: papers of pages."""

import random
import unittest

from blocksearch.errors import NoQuery
from blocksearch.grounds import paper_of
from blocksearch.pages import Page
from plain import matches_plainly, some_page, some_query
from plainpapers import is_like, no_grounds, yes_grounds
from things import NO_QUERIES

A, B, C, D, E, F = [("word", letter) for letter in "abcdef"]
PAGE = Page(7, "a b c a b a")


class PaperTests(unittest.TestCase):
    def check(self, query, word, ground, page=PAGE):
        self.assertTrue(is_like(paper_of(query, page), (word, query, ground)), paper_of(query, page))

    def test_words_phrases_and_nears(self):
        self.check(A, "yes", ("at", 0))
        self.check(C, "yes", ("at", 2))
        self.check(D, "no", ("none",))
        self.check(("phrase", "a", "b"), "yes", ("at", 0))
        self.check(("phrase", "b", "a"), "yes", ("at", 4))
        self.check(("phrase", "a", "a"), "no", ("none",))
        self.check(("phrase", "b", "c", "a", "b", "a"), "yes", ("at", 1))
        self.check(A, "no", ("none",), Page(1))

    def test_the_least_place_then_the_least_second_place(self):
        self.check(("near", 1, "a", "b"), "yes", ("at", 0, 1))
        self.check(("near", 5, "b", "a"), "yes", ("at", 1, 0))
        self.check(("near", 20, "a", "a"), "yes", ("at", 0, 3))
        self.check(("near", 2, "a", "a"), "yes", ("at", 3, 5))
        self.check(("near", 3, "c", "b"), "yes", ("at", 2, 1))
        self.check(("near", 1, "c", "c"), "no", ("none",))
        self.check(("near", 1, "a", "z"), "no", ("none",))

    def test_and(self):
        self.check(("and", A, C, B), "yes", ("all", ("at", 0), ("at", 2), ("at", 1)))
        self.check(("and", A, D), "no", ("lacks", 1, ("none",)))
        self.check(("and", D, A), "no", ("lacks", 0, ("none",)))
        self.check(("and", A, B, D, E), "no", ("lacks", 2, ("none",)))

    def test_or(self):
        self.check(("or", A, B), "yes", ("some", 0, ("at", 0)))
        self.check(("or", D, B), "yes", ("some", 1, ("at", 1)))
        self.check(("or", D, E, F, C), "yes", ("some", 3, ("at", 2)))
        self.check(("or", D, E), "no", ("all", ("none",), ("none",)))

    def test_but(self):
        self.check(("but", A, D), "yes", ("but", ("at", 0), ("none",)))
        self.check(("but", D, A), "no", ("first", ("none",)))
        self.check(("but", A, B), "no", ("second", ("at", 1)))
        # Both grounds hold: first goes ahead of second.
        self.check(("but", D, B), "no", ("first", ("none",)))
        self.check(("but", D, E), "no", ("first", ("none",)))

    def test_five_queries_deep(self):
        query = ("and", ("or", ("but", A, ("and", B, ("word", "z"))), D), C)
        self.check(query, "yes", ("all", ("some", 0, ("but", ("at", 0), ("lacks", 1, ("none",)))), ("at", 2)))
        deep = ("but", ("or", D, ("and", A, ("but", B, ("near", 1, "c", "c")))), ("or", ("word", "x"), ("word", "y")))
        self.check(deep, "yes", ("but", ("some", 1, ("all", ("at", 0), ("but", ("at", 1), ("none",)))),
                                 ("all", ("none",), ("none",))))
        self.check(("or", D, ("but", A, ("or", E, ("and", B, C)))), "no",
                   ("all", ("none",), ("second", ("some", 1, ("all", ("at", 1), ("at", 2))))))

    def test_the_first_of_all_papers_that_hold(self):
        words = {"yes": 0, "no": 0}
        for seed in range(600):
            chance = random.Random(seed)
            page, query = some_page(chance, 5, "abc", 8), some_query(chance, "abcd")
            yes, no = yes_grounds(query, page), no_grounds(query, page)
            # Of each page and query papers of just one word hold.
            self.assertNotEqual(bool(yes), bool(no))
            self.assertEqual(bool(yes), matches_plainly(query, page))
            word = "yes" if yes else "no"
            self.check(query, word, (yes or no)[0], page)
            words[word] += 1
        self.assertGreater(min(words.values()), 150)

    def test_what_is_no_query(self):
        for thing in NO_QUERIES:
            with self.assertRaises(NoQuery):
                paper_of(thing, PAGE)

    def test_arguments(self):
        self.assertEqual(paper_of(page=PAGE, query=A), ("yes", A, ("at", 0)))


if __name__ == "__main__":
    unittest.main()
