"""Points 17 and 18: segments."""

import inspect
import itertools
import random
import unittest

from blocksearch.errors import NoPages, NoSize, NoSlot, NoWord
from blocksearch.pages import Page
from blocksearch.rows import SIZE, Row
from blocksearch.segments import Segment
from plain import some_pages
from things import NO_TEXTS, NO_WHOLES, NO_WORDS

PAGES = [Page(7, "a b a"), Page(3), Page(5, "b c"), Page(9999, "a a a a")]
NO_PAGES = NO_TEXTS + ["", "a", "Page(1, 'a')", (1, "a"), Page]


def many_segments():
    chance = random.Random(17)
    for _ in range(120):
        pages = some_pages(chance, chance.randrange(1, 30), "abcdef", 9)
        yield pages, chance.randrange(1, 9)


class RefusalTests(unittest.TestCase):
    def wrong(self, pages, at):
        with self.assertRaises(NoPages) as caught:
            Segment(pages)
        self.assertEqual(caught.exception.at, at)

    def test_what_is_no_list(self):
        for thing in [one for one in NO_PAGES if not isinstance(one, list)] + [tuple(PAGES), PAGES[0]]:
            self.wrong(thing, None)

    def test_counts(self):
        sixty = [Page(number, "a") for number in range(1, 61)]
        self.assertEqual(len(Segment(sixty)), 60)
        self.assertEqual(len(Segment(sixty[:1])), 1)
        for pages in ([], sixty + [Page(61)], sixty + [None], [None] * 61, sixty + sixty):
            self.wrong(pages, None)

    def test_a_thing_that_is_no_page_at_each_place(self):
        for thing in NO_PAGES:
            for at in range(len(PAGES) + 1):
                self.wrong(PAGES[:at] + [thing] + PAGES[at:], at)
        self.wrong([None], 0)
        self.wrong(PAGES + [None, None], 4)

    def test_two_pages_of_one_number_at_each_place(self):
        for first, second in itertools.combinations(range(5), 2):
            pages = list(PAGES)
            pages.insert(first, Page(8, "x"))
            pages.insert(second, Page(8, "y"))
            self.wrong(pages, second)
        self.wrong([PAGES[0], PAGES[0]], 1)
        self.wrong([Page(1), Page(2), Page(2), Page(1)], 2)

    def test_the_first_wrong_place_tells(self):
        self.wrong([Page(1), Page(1), None], 1)
        self.wrong([Page(1), None, Page(1)], 1)

    def test_sizes(self):
        for size in range(1, 9):
            self.assertEqual(Segment(PAGES, size=size).size, size)
        for size in NO_WHOLES + [0, 9, -1, 10 ** 60]:
            for pages in (PAGES, [Page(1)]):
                with self.assertRaises(NoSize):
                    Segment(pages, size=size)

    def test_pages_and_size_both_wrong(self):
        for pages in (None, [], PAGES + [None]):
            with self.assertRaises(NoPages):
                Segment(size=0, pages=pages)

    def test_size_goes_by_its_name_alone(self):
        with self.assertRaises(TypeError):
            Segment(PAGES, 4)
        self.assertEqual(inspect.signature(Segment).parameters["size"].kind, inspect.Parameter.KEYWORD_ONLY)


class AskTests(unittest.TestCase):
    def setUp(self):
        self.segment = Segment(PAGES)

    def test_size(self):
        self.assertEqual((self.segment.size, SIZE), (4, 4))

    def test_slots_go_by_numbers(self):
        for pages in itertools.permutations(PAGES):
            segment = Segment(list(pages))
            self.assertEqual(segment.numbers(), [3, 5, 7, 9999])
            self.assertEqual(segment.lengths(), [0, 2, 3, 4])
            self.assertEqual(segment.words(), ["a", "b", "c"])
            self.assertEqual(len(segment), 4)

    def test_rows(self):
        self.assertEqual(self.segment.row("a"), Row("a", [(2, (0, 2)), (3, (0, 1, 2, 3))], [0, 2, 3, 4]))
        self.assertEqual(self.segment.row("b"), Row("b", [(1, (0,)), (2, (1,))], [0, 2, 3, 4]))
        self.assertEqual(Segment(PAGES, size=1).row("a").size, 1)

    def test_a_word_that_no_page_has(self):
        for size in (1, 4, 8):
            row = Segment(PAGES, size=size).row("zebra")
            self.assertEqual((row.word, row.size, row.entries(), row.blocks()), ("zebra", size, [], []))

    def test_what_is_no_word(self):
        for thing in NO_WORDS:
            with self.assertRaises(NoWord):
                self.segment.row(thing)

    def test_slots_of_numbers(self):
        self.assertEqual([self.segment.slot_of(number) for number in (3, 5, 7, 9999)], [0, 1, 2, 3])
        for thing in NO_TEXTS + NO_WHOLES + [1, 2, 4, 6, 8, 9998, 10000, -3, 10 ** 60, "3", Page(3)]:
            if thing != 7 or isinstance(thing, bool):
                self.assertIsNone(self.segment.slot_of(thing), thing)
        self.assertIsNone(Segment([Page(1)]).slot_of(True))
        self.assertEqual(Segment([Page(1)]).slot_of(1), 0)

    def test_pages(self):
        self.assertEqual([self.segment.page(slot) for slot in range(4)], [PAGES[1], PAGES[2], PAGES[0], PAGES[3]])

    def test_what_is_no_slot(self):
        for thing in NO_WHOLES + [-1, 4, 5, -4, 10 ** 60, 7, "0", [0]]:
            with self.assertRaises(NoSlot):
                self.segment.page(thing)
        with self.assertRaises(NoSlot):
            Segment([Page(1)]).page(False)

    def test_pages_without_words(self):
        segment = Segment([Page(2), Page(1)])
        self.assertEqual((segment.words(), segment.lengths(), segment.numbers()), ([], [0, 0], [1, 2]))
        self.assertEqual([segment.page(0), segment.page(1)], [Page(1), Page(2)])
        self.assertEqual(segment.row("a").entries(), [])

    def test_many_segments(self):
        for pages, size in many_segments():
            segment = Segment(pages, size=size)
            by_slots = sorted(pages, key=lambda page: page.number)
            self.assertEqual([segment.page(slot) for slot in range(len(segment))], by_slots)
            self.assertEqual(segment.numbers(), [page.number for page in by_slots])
            self.assertEqual(segment.lengths(), [len(page) for page in by_slots])
            self.assertEqual(segment.words(), sorted({word for page in pages for word in page.words()}))
            self.assertEqual([segment.slot_of(page.number) for page in by_slots], list(range(len(pages))))
            for word in segment.words() + ["zz"]:
                entries = [(slot, tuple(page.places(word))) for slot, page in enumerate(by_slots) if page.often(word)]
                self.assertEqual(segment.row(word), Row(word, entries, segment.lengths(), size=size))

    def test_sixty_pages_of_120_words(self):
        chance = random.Random(60)
        pages = [Page(number, " ".join(chance.choice("abcdefgh") for _ in range(120))) for number in range(60, 0, -1)]
        segment = Segment(pages, size=8)
        self.assertEqual([segment.page(slot) for slot in range(60)], pages[::-1])

    def test_arguments_by_their_names(self):
        self.assertEqual(Segment(size=2, pages=PAGES), Segment(PAGES, size=2))
        self.assertEqual(self.segment.row(word="b").word, "b")
        self.assertEqual(self.segment.slot_of(number=3), 0)
        self.assertEqual(self.segment.page(slot=0), Page(3))


class OwnTests(unittest.TestCase):
    def test_told_lists_are_the_askers_own(self):
        segment = Segment(PAGES)
        for ask in (segment.numbers, segment.lengths, segment.words):
            told = ask()
            told.append(99)
            told[0] = None
            self.assertNotEqual(ask(), told)
        for told in (segment.row("a").entries(), segment.row("a").blocks(), segment.page(2).words()):
            told.clear()
        self.assertEqual(segment, Segment(PAGES))
        self.assertEqual([segment.page(slot) for slot in range(4)], sorted(PAGES, key=lambda page: page.number))

    def test_the_handed_list_is_neither_changed_nor_kept(self):
        pages = list(PAGES)
        segment = Segment(pages)
        self.assertEqual(pages, PAGES)
        pages[0] = Page(1, "z")
        pages.clear()
        self.assertEqual(segment, Segment(PAGES))
        self.assertEqual(len(segment), 4)

    def test_rows_numbers_and_lengths_are_kept_alone(self):
        def parts(thing):
            yield thing
            if isinstance(thing, dict):
                thing = list(thing) + list(thing.values())
            if isinstance(thing, (list, tuple)):
                for one in thing:
                    yield from parts(one)

        segment = Segment([Page(7, "a b a"), Page(3, "b c")])
        kept = list(parts(list(vars(segment).values())))
        texts = ("a b a", "b c", ["b", "c"], ("b", "c"))
        self.assertFalse([one for one in kept if isinstance(one, Page) or one in texts])

    def test_walking_a_row_changes_nothing(self):
        segment = Segment(PAGES, size=1)
        segment.row("a").entries()
        segment.page(3)
        self.assertEqual(segment, Segment(PAGES, size=1))

    def test_the_interface(self):
        self.assertIn("size", vars(Segment(PAGES)))
        for name in ("numbers", "lengths", "words", "row", "slot_of", "page", "__len__", "__eq__"):
            self.assertIn(name, vars(Segment))


class EqualTests(unittest.TestCase):
    def unlike(self, one, other):
        self.assertIs(one == other, False)
        self.assertIs(other == one, False)
        self.assertIs(one != other, True)

    def test_the_same(self):
        for pages in itertools.permutations(PAGES):
            self.assertIs(Segment(list(pages)) == Segment(PAGES), True)
            self.assertIs(Segment(list(pages)) != Segment(PAGES), False)

    def test_another_size_and_other_pages(self):
        segment = Segment(PAGES)
        self.unlike(segment, Segment(PAGES, size=3))
        self.unlike(segment, Segment(PAGES[:-1]))
        self.unlike(segment, Segment(PAGES + [Page(1)]))
        self.unlike(Segment([Page(1)]), Segment([Page(1)], size=5))
        for at, page in enumerate(PAGES):
            for other in (Page(page.number, "a b"), Page(page.number, "c"), Page(8, str(page))):
                self.unlike(segment, Segment(PAGES[:at] + [other] + PAGES[at + 1:]))
        # The same numbers and words, another length, or other numbers alone.
        self.unlike(Segment([Page(1), Page(2, "a")]), Segment([Page(1, "a"), Page(2)]))
        self.unlike(Segment([Page(1, "a"), Page(2, "a")]), Segment([Page(1, "a"), Page(3, "a")]))
        self.unlike(Segment([Page(1, "a b")]), Segment([Page(1, "b a")]))

    def test_other_things(self):
        segment = Segment(PAGES)
        others = ["", "a", PAGES, tuple(PAGES), PAGES[0], segment.row("a"), segment.numbers(), {}, object()]
        for other in NO_TEXTS + others:
            self.unlike(segment, other)


if __name__ == "__main__":
    unittest.main()
