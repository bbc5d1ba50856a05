"""Points 13 and 15: what is a query, the words that are wanted."""

import unittest

from blocksearch.errors import NoQuery
from blocksearch.queries import is_query, wanted
from things import NO_QUERIES, NO_WHOLES, NO_WORDS

A, B, C, D, E = [("word", letter) for letter in "abcde"]


def deep(kind, many):
    """A query of so many queries deep, of as many words."""
    query = A
    for _ in range(many - 1):
        query = (kind, B, query)
    return query


class QueryTests(unittest.TestCase):
    def check(self, thing, told):
        self.assertIs(is_query(thing), told, thing)
        if told:
            self.assertIsInstance(wanted(thing), list)
        else:
            with self.assertRaises(NoQuery):
                wanted(thing)

    def test_words(self):
        self.check(("word", "a"), True)
        self.check(("word", "q" * 12), True)
        self.check(("word",), False)
        self.check(("word", "a", "b"), False)
        for thing in NO_WORDS:
            self.check(("word", thing), False)

    def test_phrases(self):
        for many in range(9):
            self.check(("phrase",) + ("a",) * many, 2 <= many <= 5)
        for thing in NO_WORDS + [A]:
            for at in range(3):
                words = ["a", "b"]
                words.insert(at, thing)
                self.check(("phrase", *words), False)

    def test_nears(self):
        for far in range(-2, 30):
            self.check(("near", far, "a", "b"), 1 <= far <= 20)
        self.check(("near", 3, "a", "a"), True)
        for far in NO_WHOLES + [10 ** 60]:
            self.check(("near", far, "a", "b"), False)
        for thing in NO_WORDS + [A]:
            self.check(("near", 3, thing, "b"), False)
            self.check(("near", 3, "a", thing), False)
        for parts in ((), (3,), (3, "a"), (3, "a", "b", "c"), ("a", "b"), ("a", "b", 3), ("a", 3, "b")):
            self.check(("near", *parts), False)

    def test_ands_and_ors(self):
        for kind in ("and", "or"):
            for many in range(8):
                self.check((kind,) + (A,) * many, 2 <= many <= 4)
            for thing in NO_QUERIES:
                for at in range(3):
                    parts = [A, ("phrase", "b", "c")]
                    parts.insert(at, thing)
                    self.check((kind, *parts), False)

    def test_buts(self):
        for many in range(6):
            self.check(("but",) + (A,) * many, many == 2)
        for thing in NO_QUERIES:
            self.check(("but", thing, A), False)
            self.check(("but", A, thing), False)

    def test_queries_of_every_kind_within_one_another(self):
        self.check(("and", A, ("or", B, ("but", C, ("near", 20, "d", "e"))), ("phrase", "a", "b")), True)

    def test_five_and_six_deep(self):
        for kind in ("and", "or", "but"):
            for many in range(1, 9):
                self.check(deep(kind, many), many <= 5)
        for least in (("phrase", "a", "b"), ("near", 1, "a", "b")):
            query = ("or", ("but", ("and", least, A), B), C)
            self.check(("and", query, A), True)
            self.check(("and", A, ("and", query, A)), False)
            self.check(("but", ("or", A, query), A), False)

    def test_twelve_and_thirteen_words(self):
        five = ("phrase", "a", "b", "c", "d", "e")
        near = ("near", 2, "a", "b")
        self.check(("and", five, five, near), True)
        self.check(("and", five, five, near, A), False)
        self.check(("or", five, five, A, A), True)
        self.check(("or", five, five, near, near), False)
        four = ("and", A, A, A, A)
        self.check(("or", four, four, four), True)
        self.check(("or", four, four, four, A), False)
        self.check(("or", four, four, ("and", A, A, A, near)), False)

    def test_words_that_are_not_wanted_count_too(self):
        five = ("phrase", "a", "b", "c", "d", "e")
        self.check(("but", ("or", five, A), ("or", five, A)), True)
        self.check(("but", ("or", five, A), ("or", five, ("near", 1, "a", "b"))), False)
        self.check(("but", A, ("or", five, five, ("near", 1, "a", "b"))), False)

    def test_lists_for_tuples(self):
        for thing in (["word", "a"], ["phrase", "a", "b"], ["near", 2, "a", "b"], ["and", A, B], ["but", A, B],
                      ("and", ["word", "a"], B), ("and", A, ["word", "b"]), ("and", [A, B]), ("phrase", ["a", "b"])):
            self.check(thing, False)

    def test_things_of_any_kind(self):
        for thing in NO_QUERIES + [(), ((),), (((),),), ("and", (), ()), ("nor", A, B), ("", "a"), ("Word", "a"),
                                   ("word ", "a"), (None, "a"), (["word"], "a"), (("word",), "a"), (1, 2, 3),
                                   (True, A, B), ("and", ("and",), A), [[A]], "(a & b)"]:
            self.check(thing, False)

    def test_very_many_and_very_deep_things(self):
        self.check(("and",) + (A,) * 9999, False)
        self.check(("phrase",) + ("a",) * 9999, False)
        self.check(deep("and", 100), False)

    def test_what_is_handed_in_is_not_changed(self):
        thing = ("and", A, ["word", "b"])
        is_query(thing)
        self.assertEqual(thing, ("and", A, ["word", "b"]))

    def test_arguments_by_their_names(self):
        self.assertIs(is_query(thing=A), True)
        self.assertEqual(wanted(query=A), ["a"])


class WantedTests(unittest.TestCase):
    def test_each_kind(self):
        self.assertEqual(wanted(A), ["a"])
        self.assertEqual(wanted(("phrase", "b", "a", "b")), ["b", "a", "b"])
        self.assertEqual(wanted(("near", 7, "d", "c")), ["d", "c"])
        self.assertEqual(wanted(("near", 7, "d", "d")), ["d", "d"])
        self.assertEqual(wanted(("and", C, A, C)), ["c", "a", "c"])
        self.assertEqual(wanted(("or", ("phrase", "c", "b"), A)), ["c", "b", "a"])
        self.assertEqual(wanted(("but", B, A)), ["b"])

    def test_buts_within_other_queries(self):
        but = ("but", ("phrase", "a", "b"), ("or", C, D))
        self.assertEqual(wanted(but), ["a", "b"])
        self.assertEqual(wanted(("and", E, but, E)), ["e", "a", "b", "e"])
        self.assertEqual(wanted(("or", but, but)), ["a", "b", "a", "b"])
        self.assertEqual(wanted(("but", but, A)), ["a", "b"])
        self.assertEqual(wanted(("but", E, but)), ["e"])
        self.assertEqual(wanted(("but", ("but", A, B), ("but", C, D))), ["a"])
        self.assertEqual(wanted(("and", ("but", C, A), ("or", ("but", B, C), ("but", A, B)))), ["c", "b", "a"])

    def test_a_word_that_is_wanted_and_shut_out(self):
        self.assertEqual(wanted(("but", A, A)), ["a"])
        self.assertEqual(wanted(("and", A, ("but", B, A))), ["a", "b"])

    def test_each_list_is_a_new_one(self):
        query = ("and", A, ("near", 2, "b", "a"))
        told = wanted(query)
        told[0] = 9
        told.clear()
        self.assertEqual(wanted(query), ["a", "b", "a"])
        self.assertEqual(query, ("and", A, ("near", 2, "b", "a")))


if __name__ == "__main__":
    unittest.main()
