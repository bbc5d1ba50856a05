"""Points 23 and 24: what matches, by rows alone."""

import inspect
import itertools
import random
import unittest

from blocksearch.errors import NoQuery, NoShelf, NoSize
from blocksearch.found import matching_numbers, matching_slots, neared, phrased
from blocksearch.meaning import matches, places_of
from blocksearch.pages import Page
from blocksearch.rows import Row
from blocksearch.segments import Segment
from plain import deepness, matches_plainly, some_pages, some_query, some_shelf
from things import NO_QUERIES, NO_TEXTS, NO_WHOLES

A, B, C, D = [("word", letter) for letter in "abcd"]
SEGMENT = Segment([Page(1, "a b a"), Page(2, "b a"), Page(3), Page(4, "a a b c"), Page(6, "c a b")], size=2)


def rows(words, segment=SEGMENT):
    return [segment.row(word) for word in words]


def pages_of(segment):
    return [segment.page(slot) for slot in range(len(segment))]


class PhrasedTests(unittest.TestCase):
    def test_ordinary_rows(self):
        self.assertEqual(phrased(rows("ab")), [(0, (0,)), (3, (1,)), (4, (1,))])
        self.assertEqual(phrased(rows("ba")), [(0, (1,)), (1, (0,))])
        self.assertEqual(phrased(rows("abc")), [(3, (1,))])
        self.assertEqual(phrased(rows("aabc")), [(3, (0,))])
        self.assertEqual(phrased(rows("cc")), [])

    def test_like_rows(self):
        row = SEGMENT.row("a")
        self.assertEqual(phrased([row, row]), [(3, (0,))])
        segment = Segment([Page(1, "a a a a a a"), Page(2, "a a a a")], size=1)
        self.assertEqual(phrased(rows("aaaaa", segment)), [(0, (0, 1))])
        self.assertEqual(phrased(rows("aa", segment)), [(0, (0, 1, 2, 3, 4)), (1, (0, 1, 2))])

    def test_rows_without_entries(self):
        for words in ("az", "za", "zz", "zzzzz", "abz"):
            self.assertEqual(phrased(rows(words)), [])

    def test_counts(self):
        for many in (0, 1, 6, 7, 100):
            with self.assertRaises(NoSize):
                phrased(rows("a" * many))
        for many in range(2, 6):
            self.assertIsInstance(phrased(rows("a" * many)), list)

    def test_what_is_no_list_of_rows(self):
        row = SEGMENT.row("a")
        for thing in NO_TEXTS + ["", "ab", (row, row), row, [row, None], [None, row], ["a", "b"], [row.entries()] * 2]:
            with self.assertRaises(NoSize):
                phrased(thing)

    def test_hand_made_rows(self):
        lengths = [9, 9, 9]
        one = Row("a", [(0, (2, 5)), (2, (8,))], lengths, size=1)
        other = Row("b", [(0, (3, 4, 6)), (1, (0,)), (2, (0,))], lengths, size=1)
        self.assertEqual(phrased([one, other]), [(0, (2, 5))])
        self.assertEqual(phrased([other, one]), [(0, (4,))])

    def test_against_the_meaning(self):
        chance = random.Random(23)
        for _ in range(200):
            segment = Segment(some_pages(chance, chance.randrange(1, 20), "ab", 8), size=chance.randrange(1, 9))
            words = [chance.choice("ab") for _ in range(chance.randrange(2, 6))]
            due = [(slot, tuple(places_of(("phrase", *words), page))) for slot, page in enumerate(pages_of(segment))]
            self.assertEqual(phrased(rows(words, segment)), [(slot, places) for slot, places in due if places])

    def test_the_list_is_neither_changed_nor_kept(self):
        given = rows("ab")
        told = phrased(given)
        self.assertEqual(given, rows("ab"))
        told.clear()
        self.assertEqual(phrased(rows=given), [(0, (0,)), (3, (1,)), (4, (1,))])


class NearedTests(unittest.TestCase):
    def test_ordinary_rows(self):
        self.assertEqual(neared(*rows("ab")), [(0, ((0, 1), (2, 1))), (1, ((1, 0),)), (3, ((1, 2),)), (4, ((1, 2),))])
        self.assertEqual(neared(*rows("ba"), far=2), [(0, ((1, 0), (1, 2))), (1, ((0, 1),)), (3, ((2, 0), (2, 1))),
                                                      (4, ((2, 1),))])
        self.assertEqual(neared(*rows("ac"), far=1), [(4, ((1, 0),))])

    def test_far_left_out_is_1(self):
        self.assertEqual(neared(*rows("ac")), neared(*rows("ac"), far=1))
        self.assertNotEqual(neared(*rows("ac")), neared(*rows("ac"), far=2))

    def test_a_word_near_itself(self):
        row = SEGMENT.row("a")
        self.assertEqual(neared(row, row), [(3, ((0, 1), (1, 0)))])
        self.assertEqual(neared(row, row, far=2), [(0, ((0, 2), (2, 0))), (3, ((0, 1), (1, 0)))])

    def test_rows_without_entries(self):
        for words in ("az", "za", "zz"):
            self.assertEqual(neared(*rows(words), far=20), [])

    def test_far_1_and_20(self):
        segment = Segment([Page(1 + many, "a" + " c" * many + " b") for many in range(22)])
        one, other = rows("ab", segment)
        for far in (1, 2, 19, 20):
            self.assertEqual(neared(one, other, far=far), [(many, ((0, many + 1),)) for many in range(far)])

    def test_wrong_fars(self):
        for far in NO_WHOLES + [0, 21, -1, 200, 10 ** 60]:
            with self.assertRaises(NoSize):
                neared(*rows("ab"), far=far)

    def test_far_goes_by_its_name_alone(self):
        with self.assertRaises(TypeError):
            neared(*rows("ab"), 1)
        self.assertEqual(inspect.signature(neared).parameters["far"].kind, inspect.Parameter.KEYWORD_ONLY)
        self.assertEqual(neared(far=2, other=SEGMENT.row("b"), row=SEGMENT.row("a")), neared(*rows("ab"), far=2))

    def test_against_the_meaning(self):
        chance = random.Random(32)
        for _ in range(200):
            segment = Segment(some_pages(chance, chance.randrange(1, 20), "abc", 8), size=chance.randrange(1, 9))
            one, other, far = chance.choice("ab"), chance.choice("ab"), chance.choice([1, 2, 3, 20])
            query = ("near", far, one, other)
            due = [(slot, tuple(places_of(query, page))) for slot, page in enumerate(pages_of(segment))]
            told = neared(segment.row(one), segment.row(other), far=far)
            self.assertEqual(told, [(slot, pairs) for slot, pairs in due if pairs])


class MatchingTests(unittest.TestCase):
    def test_each_kind(self):
        for query, slots in (
            (A, [0, 1, 3, 4]), (D, []), (("phrase", "a", "b"), [0, 3, 4]), (("near", 1, "a", "a"), [3]),
            (("and", A, C), [3, 4]), (("and", A, D), []), (("or", C, ("phrase", "b", "a")), [0, 1, 3, 4]),
            (("or", D, D), []), (("but", A, C), [0, 1]), (("but", C, A), []), (("but", A, D), [0, 1, 3, 4]),
        ):
            self.assertEqual(matching_slots(SEGMENT, query), slots)

    def test_each_slot_as_the_meaning_tells(self):
        chance = random.Random(24)
        deeps = set()
        for _ in range(600):
            segment = Segment(some_pages(chance, chance.randrange(1, 15), "abc", 6), size=chance.randrange(1, 9))
            query = some_query(chance, "abc")
            deeps.add(deepness(query))
            told = matching_slots(segment, query)
            self.assertEqual(told, [slot for slot, page in enumerate(pages_of(segment)) if matches(query, page)])
            told.append(None)
            self.assertNotEqual(matching_slots(segment, query), told)
        self.assertEqual(deeps, {1, 2, 3, 4, 5})

    def test_numbers_of_all_that_stand(self):
        chance = random.Random(25)
        for _ in range(300):
            shelf, stands = some_shelf(chance, letters="abc", most=6, top=60)
            query = some_query(chance, "abc")
            told = matching_numbers(shelf, query)
            self.assertEqual(told, sorted(page.number for page in stands if matches_plainly(query, page)))
            told.append(None)
            self.assertNotEqual(matching_numbers(shelf, query), told)

    def test_gone_pages_and_the_order_of_segments(self):
        one = Segment([Page(5, "a"), Page(9, "a b")])
        two = Segment([Page(2, "a"), Page(5, "b"), Page(7, "a")])
        for shelf in itertools.permutations([(one, [0]), (two, [])]):
            self.assertEqual(matching_numbers(list(shelf), A), [2, 7, 9])
            self.assertEqual(matching_numbers(list(shelf), B), [5, 9])
        self.assertEqual(matching_numbers([(one, []), (two, [1])], A), [2, 5, 7, 9])
        self.assertEqual(matching_numbers([(one, [0, 1]), (two, [0, 1, 2])], A), [])
        self.assertEqual(matching_numbers([], A), [])

    def test_what_is_no_query(self):
        for thing in NO_QUERIES:
            with self.assertRaises(NoQuery):
                matching_slots(SEGMENT, thing)
            for shelf in ([], [(SEGMENT, [])]):
                with self.assertRaises(NoQuery):
                    matching_numbers(shelf, thing)

    def test_what_is_no_shelf(self):
        for thing, at in ((None, None), ((), None), ("", None), ([None], 0), ([(SEGMENT, [5])], 0),
                          ([(SEGMENT, []), (SEGMENT, [])], 1), ([(SEGMENT, [])] * 9, None)):
            for query in (A, None, ("word", "A")):
                with self.assertRaises(NoShelf) as caught:
                    matching_numbers(thing, query)
                self.assertEqual(caught.exception.at, at)

    def test_arguments_by_their_names(self):
        self.assertEqual(matching_slots(query=A, segment=SEGMENT), [0, 1, 3, 4])
        self.assertEqual(matching_numbers(query=A, shelf=[(SEGMENT, [0])]), [2, 4, 6])

    def test_nothing_is_changed(self):
        shelf = [(SEGMENT, [0, 3])]
        matching_numbers(shelf, ("or", A, ("but", B, C)))
        self.assertEqual(shelf, [(Segment(pages_of(SEGMENT), size=2), [0, 3])])


if __name__ == "__main__":
    unittest.main()
