"""Points 31 to 37: the store."""

import inspect
import itertools
import random
import unittest

from blocksearch import errors, store as module
from blocksearch.best import best_plain
from blocksearch.commits import recovered
from blocksearch.disk import Disk
from blocksearch.early import best_early, holds_best
from blocksearch.errors import Broken, Full, Gone, NoSize, Taken
from blocksearch.files import segment_rows, whole_text
from blocksearch.found import matching_numbers
from blocksearch.pages import Page
from blocksearch.ranks import Figures, rank
from blocksearch.segments import Segment
from blocksearch.shelves import check_shelf
from blocksearch.store import Store, store_of
from plain import matches_plainly, rank_plainly, some_query
from plainstore import PlainStore
from things import NO_QUERIES, NO_WHOLES, NO_WORDS

A, B = ("word", "a"), ("word", "b")
# Truths among them: they are equal to numbers that stand, but no whole numbers.
NO_NUMBERS = NO_WHOLES + [thing for thing in NO_WORDS + NO_QUERIES if not isinstance(thing, int)]
NO_NUMBERS += [[[1], (2, [3])]]


def numbered(first, last, text="a"):
    return [Page(number, text) for number in range(first, last + 1)]


def filled(*counts, hand=0):
    """A store with sealed segments of so many pages each, numbered in turn, and so many in hand."""
    store, number = Store(), 1
    for many in counts:
        store.put_all(numbered(number, number + many - 1))
        store.seal()
        number += many
    store.put_all(numbered(number, number + hand - 1))
    return store


def eight_sealed(*counts):
    """A store as it may be recovered: of eight segments."""
    shelf = filled(*counts[:7], hand=counts[7]).shelf()
    return store_of(4, shelf)


def recovered_of(*counts):
    """A recovered store with segments of so many pages each, numbered in turn: also more than may be put."""
    firsts = [1 + sum(counts[:at]) for at in range(len(counts))]
    rows = [[[number, "a", True] for number in range(first, first + many)] for first, many in zip(firsts, counts)]
    return recovered_from(rows)


def recovered_from(rows, size=4):
    """A store that is recovered from a disk on which a head stands, its segments as the rows of a plain store."""
    disk, head = Disk(), ["1", str(size)]
    for at, row in enumerate(rows):
        segment = Segment([Page(number, text) for number, text, stands in row], size=size)
        disk.write(f"s1.{at}", whole_text(segment_rows(segment)))
        head.append(" ".join([f"s1.{at}"] + [str(slot) for slot, one in enumerate(row) if not one[2]]))
    disk.write("h1", whole_text(head))
    disk.flush()
    return recovered(disk)


def told(store):
    """All that a store tells, but its log."""
    return (store.size, store.shelf(), store.numbers(), store.in_hand(), store.sealed(), len(store),
            [store.page(number) for number in store.numbers()])


class Case(unittest.TestCase):
    def refused(self, store, kind, field, deed):
        """A deed that is refused changes nothing but the log, which gets one row."""
        before, log = told(store), store.log(last=10 ** 9)
        with self.assertRaises(kind) as caught:
            deed()
        name = {Taken: "number", Gone: "number", Full: "many", Broken: "at"}.get(kind)
        if name is not None:
            self.assertEqual(getattr(caught.exception, name), field)
            self.assertIs(type(getattr(caught.exception, name)), type(field))
        self.assertEqual(told(store), before)
        self.assertEqual(store.log(last=10 ** 9)[:-1], log)
        self.assertIs(store.log(last=1)[0][1], False)


class NewStoreTests(Case):
    def test_the_bounds(self):
        self.assertEqual((module.MOST_PAGES, module.MOST_IN_HAND, module.MOST_SEALED, module.LAST), (120, 60, 7, 5))

    def test_a_new_store(self):
        store = Store()
        self.assertEqual(told(store), (4, [], [], [], 0, 0, []))
        self.assertEqual(store.log(), [])

    def test_sizes(self):
        for size in range(1, 9):
            store = Store(size)
            store.put(Page(1, "a"))
            self.assertEqual((store.size, store.shelf()[0][0].size), (size, size))
            store.seal()
            store.merge(many=1)
            self.assertEqual(store.shelf(), [(Segment([Page(1, "a")], size=size), [])])
        self.assertEqual(Store(size=3).size, 3)
        for size in NO_WHOLES + [0, -1, 9, 10 ** 60]:
            with self.assertRaises(NoSize):
                Store(size)

    def test_two_stores_know_nothing_of_one_another(self):
        one, other = Store(), Store(2)
        one.put(Page(1, "a"))
        other.put(Page(1, "b"))
        other.put(Page(2))
        one.seal()
        other.drop(1)
        self.assertEqual((one.numbers(), one.in_hand(), one.sealed()), ([1], [], 1))
        self.assertEqual((other.numbers(), other.in_hand(), other.sealed()), ([2], [2], 0))
        self.assertEqual([word for word, done in one.log()], ["put", "seal"])
        self.assertEqual([word for word, done in other.log()], ["put", "put", "drop"])


class PutTests(Case):
    def test_a_page_is_put_in_hand(self):
        store = Store()
        self.assertIsNone(store.put(Page(7, "a b")))
        self.assertIsNone(store.put(Page(3)))
        self.assertEqual((store.numbers(), store.in_hand(), store.sealed(), len(store)), ([3, 7], [3, 7], 0, 2))
        self.assertEqual((store.page(7), store.page(3)), (Page(7, "a b"), Page(3)))

    def test_a_number_that_stands(self):
        store = filled(2, hand=2)
        for number in (1, 2, 3, 4):
            self.refused(store, Taken, number, lambda: store.put(Page(number, "z")))
            self.refused(store, Taken, number, lambda: store.put(Page(number, "a"), anew=False))
        store.drop(1)
        store.put(Page(1, "z"))
        self.assertEqual((store.page(1), store.in_hand()), (Page(1, "z"), [1, 3, 4]))

    def test_put_anew(self):
        store = filled(3, hand=1)
        self.assertIsNone(store.put(Page(4, "x"), anew=True))
        self.assertEqual((store.page(4), store.in_hand(), len(store)), (Page(4, "x"), [4], 4))
        store.put(Page(2, "y"), anew=True)
        self.assertEqual((store.page(2), store.in_hand(), len(store)), (Page(2, "y"), [2, 4], 4))
        self.assertEqual(store.shelf()[0], (Segment(numbered(1, 3)), [1]))
        store.put(Page(1, "y"), anew=True)
        self.assertEqual(store.shelf()[0][1], [0, 1])
        # A number that doesn't stand may be put anew, too.
        store.put(Page(9, "y"), anew=True)
        self.assertEqual(store.in_hand(), [1, 2, 4, 9])

    def test_a_number_gone_in_one_segment_stands_in_another(self):
        store = filled(2)
        store.put(Page(1, "b"), anew=True)
        store.seal()
        store.put(Page(1, "c"), anew=True)
        store.seal()
        self.assertEqual([gone for segment, gone in store.shelf()], [[0], [0], []])
        self.assertEqual((store.page(1), len(store)), (Page(1, "c"), 2))
        store.drop(1)
        self.assertEqual([gone for segment, gone in store.shelf()], [[0], [0], [0]])
        self.refused(store, Gone, 1, lambda: store.drop(1))

    def test_sixty_in_hand(self):
        store = filled(1, hand=59)
        store.put(Page(100))
        self.assertEqual(len(store.in_hand()), 60)
        self.refused(store, Full, 60, lambda: store.put(Page(101)))
        # Anew, one in hand goes first; one that is sealed leaves the hand as it is.
        store.put(Page(100, "b"), anew=True)
        self.assertEqual((store.page(100), len(store.in_hand())), (Page(100, "b"), 60))
        self.refused(store, Full, 60, lambda: store.put(Page(1, "b"), anew=True))
        self.refused(store, Full, 60, lambda: store.put(Page(102), anew=True))
        self.refused(store, Taken, 1, lambda: store.put(Page(1)))

    def test_a_hundred_and_twenty_stand(self):
        store = filled(60, 30, hand=30)
        self.assertEqual(len(store), 120)
        self.refused(store, Full, 120, lambda: store.put(Page(500)))
        self.refused(store, Full, 120, lambda: store.put(Page(500), anew=True))
        store.put(Page(1, "b"), anew=True)
        store.put(Page(120, "b"), anew=True)
        self.assertEqual((len(store), len(store.in_hand())), (120, 31))
        store.drop(2)
        store.put(Page(500))
        self.refused(store, Full, 120, lambda: store.put(Page(501)))
        full = filled(60, hand=59)
        full.put(Page(500))
        self.assertEqual(len(full), 120)

    def test_seven_and_eight_sealed(self):
        store = filled(*[1] * 7)
        store.put(Page(100))
        self.assertEqual((store.sealed(), store.in_hand()), (7, [100]))
        store = eight_sealed(*[1] * 8)
        self.assertEqual((store.sealed(), store.in_hand(), len(store)), (8, [], 8))
        self.refused(store, Full, 7, lambda: store.put(Page(100)))
        self.refused(store, Full, 7, lambda: store.put(Page(1), anew=True))
        self.refused(store, Taken, 1, lambda: store.put(Page(1)))
        store.merge()
        store.put(Page(100))
        self.assertEqual((store.sealed(), store.in_hand()), (7, [100]))

    def test_which_full_is_told_where_several_are_so(self):
        store = filled(60, hand=60)
        self.refused(store, Full, 60, lambda: store.put(Page(500)))
        self.refused(store, Taken, 1, lambda: store.put(Page(1)))
        store = eight_sealed(60, 50, 2, 2, 2, 2, 1, 1)
        self.assertEqual(len(store), 120)
        self.refused(store, Full, 7, lambda: store.put(Page(500)))
        store = recovered_of(*[60] * 8)
        self.refused(store, Full, 7, lambda: store.put(Page(1, "z"), anew=True))
        store = recovered_of(*[60] * 7)
        self.refused(store, Full, 120, lambda: store.put(Page(1, "z"), anew=True))

    def test_more_than_a_hundred_and_twenty_recovered(self):
        for counts in ((60, 60, 1), (60, 60, 2), (60, 60, 60), [60] * 7):
            store, last = recovered_of(*counts), sum(counts)
            self.assertEqual(len(store), last)
            self.refused(store, Full, 120, lambda: store.put(Page(5000)))
            for number in (1, 60, 61, last):
                self.refused(store, Taken, number, lambda: store.put(Page(number, "z")))
                self.refused(store, Full, 120, lambda: store.put(Page(number, "z"), anew=True))
                self.refused(store, Full, 120, lambda: store.put(Page(number), anew=True))

    def test_dropped_to_a_hundred_and_twenty(self):
        store = recovered_of(60, 60, 3)
        for number in (1, 70, 122):
            self.refused(store, Full, 120, lambda: store.put(Page(5, "z"), anew=True))
            # One that was dropped doesn't stand: put anew, none goes.
            store.drop(number)
            self.refused(store, Full, 120, lambda: store.put(Page(number, "z"), anew=True))
        self.assertEqual(len(store), 120)
        store.put(Page(5, "z"), anew=True)
        store.put(Page(5, "y"), anew=True)
        store.put(Page(123, "z"), anew=True)
        self.assertEqual((len(store), store.in_hand(), store.page(5)), (120, [5, 123], Page(5, "y")))
        self.refused(store, Full, 120, lambda: store.put(Page(1)))
        store.drop(5)
        store.put(Page(1))
        self.assertEqual((len(store), store.in_hand()), (120, [1, 123]))

    def test_pages_changed_behind_the_call(self):
        store = Store()
        page = Page(5, "a b")
        store.put(page)
        page.number = 6
        page.in_turn = ("z",)
        self.assertEqual((store.numbers(), store.page(5)), ([5], Page(5, "a b")))
        told_page = store.page(5)
        told_page.number = 8
        self.assertEqual((store.numbers(), store.page(5)), ([5], Page(5, "a b")))
        store.seal()
        store.page(5).number = 9
        self.assertEqual(store.page(5), Page(5, "a b"))

    def test_arguments(self):
        store = Store()
        store.put(page=Page(1), anew=False)
        store.put_all(pages=[Page(1), Page(2)], anew=True)
        store.drop(number=2)
        self.assertEqual(store.page(number=1), Page(1))
        for deed in (Store.put, Store.put_all, Store.merge, Store.log):
            for name, kind in list(inspect.signature(deed).parameters.items())[1:]:
                if name not in ("page", "pages"):
                    self.assertEqual(kind.kind, inspect.Parameter.KEYWORD_ONLY)


class PutAllTests(Case):
    def test_none_and_several(self):
        store = Store()
        self.assertIsNone(store.put_all([]))
        self.assertIsNone(store.put_all([Page(3, "c"), Page(1, "a")]))
        self.assertEqual((store.in_hand(), store.page(3)), ([1, 3], Page(3, "c")))
        self.assertEqual(store.log(), [("put_all", True), ("put_all", True)])

    def test_a_refused_one_at_each_place(self):
        for at in range(4):
            pages = [Page(10), Page(11), Page(12)]
            for number in (1, 3):
                store = filled(2, hand=2)
                store.drop(2)
                refused = pages[:at] + [Page(number)] + pages[at:]
                self.refused(store, Broken, at, lambda: store.put_all(refused))
                self.assertEqual(store.log(last=2), [("drop", True), ("put_all", False)])

    def test_two_like_numbers_in_the_one_list(self):
        for at, first in itertools.permutations(range(4), 2):
            if first < at:
                pages = [Page(10), Page(11)]
                pages.insert(first, Page(9, "a"))
                pages.insert(at, Page(9, "b"))
                store = filled(1)
                self.refused(store, Broken, at, lambda: store.put_all(pages))
                store.put_all(pages, anew=True)
                self.assertEqual((store.in_hand(), store.page(9)), ([9, 10, 11], Page(9, "b")))

    def test_anew(self):
        store = filled(3, hand=2)
        store.put_all([Page(2, "x"), Page(5, "y"), Page(7, "z")], anew=True)
        self.assertEqual((store.in_hand(), store.shelf()[0][1]), ([2, 4, 5, 7], [1]))
        self.assertEqual([str(store.page(number)) for number in (2, 5, 7)], ["x", "y", "z"])

    def test_anew_where_more_than_a_hundred_and_twenty_stand(self):
        for counts in ((60, 60, 1), (60, 60, 60)):
            store = recovered_of(*counts)
            for pages in ([Page(5, "b")], [Page(5, "b"), Page(6, "b")], [Page(5000), Page(5)]):
                self.refused(store, Broken, 0, lambda: store.put_all(pages, anew=True))
            self.assertIsNone(store.put_all([], anew=True))
        store = recovered_of(60, 60)
        self.refused(store, Broken, 2, lambda: store.put_all([Page(5, "b"), Page(61, "b"), Page(500)], anew=True))
        store.put_all([Page(5, "b"), Page(61, "b"), Page(5, "c")], anew=True)
        self.assertEqual((len(store), store.in_hand(), store.page(5)), (120, [5, 61], Page(5, "c")))

    def test_anew_that_breaks_puts_all_back(self):
        store = filled(3, hand=58)
        pages = [Page(1, "x"), Page(61, "y"), Page(2, "x"), Page(3, "x"), Page(500)]
        self.refused(store, Broken, 3, lambda: store.put_all(pages, anew=True))
        self.assertEqual((store.page(1), store.page(61), store.shelf()[0][1]), (Page(1, "a"), Page(61, "a"), []))

    def test_the_bounds(self):
        store = filled(50)
        self.refused(store, Broken, 60, lambda: store.put_all(numbered(100, 160)))
        store.put_all(numbered(100, 159))
        store = filled(60, 50)
        self.refused(store, Broken, 10, lambda: store.put_all(numbered(200, 230)))
        store.put_all(numbered(200, 209))
        store = eight_sealed(*[1] * 8)
        self.refused(store, Broken, 0, lambda: store.put_all([Page(100)]))
        store.put_all([])

    def test_lists_changed_behind_the_call(self):
        store = Store()
        pages = [Page(1, "a"), Page(2, "b")]
        store.put_all(pages)
        self.assertEqual(pages, [Page(1, "a"), Page(2, "b")])
        pages[0].number = 5
        pages.clear()
        self.assertEqual((store.numbers(), store.page(1)), ([1, 2], Page(1, "a")))


class DropTests(Case):
    def test_pages_in_hand_and_sealed_ones(self):
        store = filled(3, hand=2)
        self.assertIsNone(store.drop(4))
        self.assertEqual((store.in_hand(), store.numbers()), ([5], [1, 2, 3, 5]))
        self.assertIsNone(store.drop(3))
        self.assertIsNone(store.drop(1))
        self.assertEqual((store.numbers(), store.shelf()[0][1]), ([2, 5], [0, 2]))
        self.assertEqual((store.sealed(), len(store)), (1, 2))
        for number in (1, 3, 4):
            self.refused(store, Gone, number, lambda: store.drop(number))
            with self.assertRaises(Gone):
                store.page(number)

    def test_any_thing_that_is_no_number_that_stands(self):
        store = filled(2, hand=2)
        for thing in NO_NUMBERS + [0, -1, 5, 9999, 10000, 10 ** 399]:
            self.refused(store, Gone, thing, lambda: store.drop(thing))
            log = store.log(last=10 ** 9)
            with self.assertRaises(Gone) as caught:
                store.page(thing)
            self.assertEqual(caught.exception.number, thing)
            self.assertIs(type(caught.exception.number), type(thing))
            # To ask for a page is no deed.
            self.assertEqual(store.log(last=10 ** 9), log)

    def test_the_field_is_not_changed_behind_the_call(self):
        thing = [1, [2]]
        with self.assertRaises(Gone) as caught:
            Store().drop(thing)
        thing[1].append(3)
        self.assertEqual(caught.exception.number, [1, [2]])

    def test_the_last_page_of_a_segment(self):
        store = filled(1)
        store.drop(1)
        self.assertEqual((store.sealed(), len(store), store.shelf()), (1, 0, [(Segment(numbered(1, 1)), [0])]))


class SealTests(Case):
    def test_none_in_hand(self):
        store = Store()
        self.assertIs(store.seal(), False)
        self.assertEqual((store.sealed(), store.log()), (0, [("seal", True)]))
        store = filled(*[1] * 7)
        self.assertIs(store.seal(), False)
        self.assertEqual(store.log(last=1), [("seal", True)])
        store = eight_sealed(*[1] * 8)
        self.assertIs(store.seal(), False)

    def test_all_in_hand_are_the_last_segment(self):
        store = filled(2)
        store.put_all([Page(9, "c"), Page(5, "b")])
        self.assertIs(store.seal(), True)
        self.assertEqual(store.shelf(), [(Segment(numbered(1, 2)), []), (Segment([Page(5, "b"), Page(9, "c")]), [])])
        self.assertEqual((store.in_hand(), store.sealed(), store.numbers()), ([], 2, [1, 2, 5, 9]))

    def test_at_six_and_seven(self):
        store = filled(*[1] * 6, hand=1)
        self.assertIs(store.seal(), True)
        store.put(Page(100))
        self.refused(store, Full, 7, store.seal)
        store.merge()
        self.assertIs(store.seal(), True)
        self.assertEqual(store.sealed(), 7)


class MergeTests(Case):
    def test_one(self):
        store = filled(4)
        store.drop(2)
        self.assertEqual(store.merge(many=1), [(0, 0, 0), (0, 2, 1), (0, 3, 2)])
        self.assertEqual(store.shelf(), [(Segment([Page(1, "a"), Page(3, "a"), Page(4, "a")]), [])])

    def test_all_and_some_in_the_midst(self):
        store = filled(2, 2, 2, 2)
        store.put_all([Page(3, "b"), Page(1, "c")], anew=True)
        store.seal()
        self.assertEqual(store.merge(at=1, many=2), [(0, 1, 0), (1, 0, 1), (1, 1, 2)])
        self.assertEqual([segment.numbers() for segment, gone in store.shelf()], [[1, 2], [4, 5, 6], [7, 8], [1, 3]])
        self.assertEqual(store.merge(many=4), [(0, 1, 1), (1, 0, 3), (1, 1, 4), (1, 2, 5), (2, 0, 6), (2, 1, 7),
                                               (3, 0, 0), (3, 1, 2)])
        self.assertEqual(store.shelf(), [(Segment([Page(1, "c"), Page(2, "a"), Page(3, "b"), *numbered(4, 8)]), [])])

    def test_two_from_the_first_on_if_none_are_handed_in(self):
        store = filled(1, 1, 1)
        self.assertEqual(store.merge(), [(0, 0, 0), (1, 0, 1)])
        self.assertEqual(store.sealed(), 2)
        self.assertEqual(store.merge(at=0), [(0, 0, 0), (0, 1, 1), (1, 0, 2)])
        self.refused(store, NoSize, None, store.merge)

    def test_segments_of_which_no_page_stands(self):
        store = filled(2, 1, 1, hand=1)
        for number in (1, 2, 3):
            store.drop(number)
        self.assertEqual(store.merge(), [])
        self.assertEqual((store.sealed(), store.numbers(), store.log(last=1)), (1, [4, 5], [("merge", True)]))
        store.drop(4)
        self.assertEqual(store.merge(many=1), [])
        self.assertEqual((store.sealed(), store.numbers()), (0, [5]))
        store = filled(1, 2)
        store.drop(1)
        self.assertEqual(store.merge(), [(1, 0, 0), (1, 1, 1)])

    def test_sixty_and_more(self):
        store = filled(30, 30, 1, 1)
        self.refused(store, Full, 60, lambda: store.merge(many=3))
        self.refused(store, Full, 60, lambda: store.merge(many=4))
        self.assertEqual(len(store.merge()), 60)
        self.refused(store, Full, 60, store.merge)
        store.drop(60)
        self.assertEqual(len(store.merge()), 60)
        self.assertEqual((store.sealed(), len(store)), (2, 61))

    def test_places_and_counts_that_are_none(self):
        store = filled(1, 1, 1, hand=1)
        for at, many in [(0, 0), (0, -1), (0, 4), (1, 3), (2, 2), (3, 1), (3, 0), (-1, 1), (-1, 2), (-3, 3), (4, 1),
                         (10 ** 60, 1), (0, 10 ** 60), (-10 ** 60, 1), (0, -10 ** 60)]:
            self.refused(store, NoSize, None, lambda: store.merge(at=at, many=many))
        for thing in NO_NUMBERS:
            self.refused(store, NoSize, None, lambda: store.merge(at=thing, many=1))
            self.refused(store, NoSize, None, lambda: store.merge(at=0, many=thing))
            self.refused(store, NoSize, None, lambda: store.merge(at=thing, many=thing))
        for at, many in ((0, 1), (0, 2)):
            empty = Store()
            self.refused(empty, NoSize, None, lambda: empty.merge(at=at, many=many))
        # The hand is no segment of the row.
        self.refused(store, NoSize, None, lambda: store.merge(at=0, many=4))

    def test_told_moves_are_the_askers_own(self):
        store = filled(1, 1)
        store.merge().clear()
        self.assertEqual(store.merge(many=1), [(0, 0, 0), (0, 1, 1)])

    def test_all_merged_in_several_orders_are_the_one_segment(self):
        chance = random.Random(36)
        for _ in range(40):
            history = [(chance.randrange(1, 30), chance.choice(["a", "b a", "c c", ""])) for _ in range(25)]
            ends = []
            for order in range(4):
                store, deeds = Store(3), 0
                for number, text in history:
                    store.put(Page(number, text), anew=True)
                    deeds += 1
                    if deeds % 4 == 0:
                        store.seal()
                store.drop(history[0][0])
                while store.sealed() > 1:
                    many = chance.randrange(2, store.sealed() + 1)
                    store.merge(at=chance.randrange(store.sealed() - many + 1), many=many)
                store.merge(many=1)
                ends.append(store.shelf())
                sealed = [page for page in [store.page(one) for one in store.numbers()]
                          if page.number not in store.in_hand()]
                self.assertEqual(store.shelf()[0], (Segment(sealed, size=3), []))
            self.assertEqual(ends, [ends[0]] * 4)


class ShelfTests(Case):
    def test_no_pages_in_hand_and_some(self):
        store = filled(2)
        self.assertEqual(store.shelf(), [(Segment(numbered(1, 2)), [])])
        store.put_all([Page(9, "z"), Page(4, "y")])
        store.drop(1)
        self.assertEqual(store.shelf(), [(Segment(numbered(1, 2)), [0]), (Segment([Page(4, "y"), Page(9, "z")]), [])])
        self.assertEqual(store.sealed(), 1)

    def test_told_lists_are_the_askers_own(self):
        store = filled(3, hand=2)
        store.drop(1)
        before = told(store)
        shelf = store.shelf()
        shelf[0][1].append(2)
        shelf[1][1].append(0)
        shelf.clear()
        store.numbers().clear()
        store.in_hand().append(77)
        store.log().clear()
        self.assertEqual(told(store), before)
        self.assertEqual(len(store.log()), 4)
        inner = [gone for segment, gone in filled(1, 1, hand=1).shelf()]
        self.assertEqual(len({id(gone) for gone in inner}), 3)

    def test_a_shelf_told_ahead_is_not_changed_by_deeds(self):
        store = filled(3, hand=1)
        shelf = store.shelf()
        store.drop(1)
        store.drop(4)
        store.merge(many=1)
        self.assertEqual(shelf, filled(3, hand=1).shelf())


class LogTests(Case):
    def test_each_deeds_word(self):
        store = Store()
        store.put(Page(1))
        store.put_all([Page(2), Page(3)])
        store.drop(3)
        store.seal()
        store.merge(many=1)
        store.seal()
        self.assertEqual(store.log(last=9), [("put", True), ("put_all", True), ("drop", True), ("seal", True),
                                             ("merge", True), ("seal", True)])

    def test_refused_deeds(self):
        store = filled(*[1] * 7, hand=1)
        for deed in (lambda: store.put(Page(1)), lambda: store.put_all([Page(9), Page(1)]), lambda: store.drop(99),
                     store.seal, lambda: store.merge(many=9)):
            with self.assertRaises((Taken, Broken, Gone, Full, NoSize)):
                deed()
        self.assertEqual(store.log(), [("put", False), ("put_all", False), ("drop", False), ("seal", False),
                                       ("merge", False)])

    def test_what_is_asked_is_no_deed(self):
        store = filled(1, hand=1)
        log = store.log(last=99)
        told(store)
        self.assertEqual(store.log(last=99), log)

    def test_the_last_so_many(self):
        store = Store()
        for number in range(1, 8):
            store.put(Page(number))
        store.seal()
        rows = [("put", True)] * 7 + [("seal", True)]
        self.assertEqual(store.log(), rows[-5:])
        for last in range(12):
            self.assertEqual(store.log(last=last), rows[len(rows) - last:] if last < 8 else rows)
        self.assertEqual(store.log(last=10 ** 399), rows)
        self.assertEqual(store.log(last=0), [])
        for thing in NO_WHOLES + [-1, -5, -10 ** 60]:
            with self.assertRaises(NoSize):
                store.log(last=thing)
        self.assertEqual(store.log(last=99), rows)

    def test_the_told_log_is_the_askers_own(self):
        store = filled(1)
        store.log(last=99).append(None)
        store.log(last=99)[0] = None
        self.assertEqual(store.log(last=99), [("put_all", True), ("seal", True), ("put_all", True)])


def some_deed(chance, store, plain, top):
    """Do a deed of chance to both; tell what each was refused with, and what it told."""
    word = chance.choice(["put"] * 4 + ["anew"] * 3 + ["all", "drop", "drop", "seal", "seal", "merge"])
    number, text = chance.randrange(1, top), " ".join(chance.choices("abc", k=chance.randrange(6)))
    if word in ("put", "anew"):
        return ((lambda: store.put(Page(number, text), anew=word == "anew")),
                (plain.put(number, text, word == "anew"), None))
    if word == "all":
        anew = chance.random() < 0.7
        pages = [(chance.randrange(1, top), text + " b" * (text != "")) for _ in range(chance.randrange(9))]
        return (lambda: store.put_all([Page(*one) for one in pages], anew=anew)), (plain.put_all(pages, anew), None)
    if word == "drop":
        return (lambda: store.drop(number)), (plain.drop(number), None)
    if word == "seal":
        return store.seal, plain.seal()
    at, many = chance.randrange(-1, 5), chance.randrange(5)
    return (lambda: store.merge(at=at, many=many)), plain.merge(at, many)


class HistoryTests(Case):
    def check_deed(self, deed, due):
        refused, answer = due
        if refused is None:
            self.assertEqual(deed(), answer)
            return
        kind, field = refused
        with self.assertRaises(getattr(errors, kind)) as caught:
            deed()
        if field is not None:
            self.assertEqual(list(vars(caught.exception).values()), [field])

    def check_told(self, store, plain):
        self.assertEqual((store.numbers(), len(store)), (plain.numbers(), len(plain.numbers())))
        self.assertEqual(store.in_hand(), sorted(number for number, text in plain.hand))
        self.assertEqual(store.sealed(), len(plain.row))
        self.assertEqual(store.log(last=10 ** 9), plain.deeds)
        shelf = store.shelf()
        check_shelf(shelf)
        self.assertEqual([gone for segment, gone in shelf], plain.gone() + [[]] * (plain.hand != []))
        segments = [Segment([Page(one, text) for one, text, stands in row], size=store.size) for row in plain.row]
        segments += [Segment([Page(*one) for one in plain.hand], size=store.size)] if plain.hand else []
        self.assertEqual([segment for segment, gone in shelf], segments)
        for page in plain.pages():
            self.assertEqual(store.page(page.number), page)

    def check_query(self, chance, store, plain):
        query, k, shelf, pages = some_query(chance, "abc"), chance.choice([0, 1, 3, 10]), store.shelf(), plain.pages()
        matching = [page for page in pages if matches_plainly(query, page)]
        self.assertEqual(matching_numbers(shelf, query), sorted(page.number for page in matching))
        figures = Figures(shelf)
        for page in matching[:5]:
            ratio, due = rank(figures, query, page), rank_plainly(pages, query, page)
            self.assertEqual((ratio.top, ratio.bottom), (due.numerator, due.denominator))
        paper = best_early(shelf, query, k=k)
        best = best_plain(pages, query, k=k).told()
        self.assertEqual(paper[3], [(number, ratio.top, ratio.bottom) for number, ratio in best])
        self.assertIs(holds_best(shelf, paper), True)

    def test_drawn_histories(self):
        words = set()
        for seed in range(60):
            chance = random.Random(seed)
            store, plain = Store(chance.randrange(1, 9)), PlainStore()
            top = chance.choice([6, 30, 300])
            for _ in range(50):
                deed, due = some_deed(chance, store, plain, top)
                words.add((plain.deeds[-1], due[0] and due[0][0]))
                self.check_deed(deed, due)
            self.check_told(store, plain)
            for _ in range(4):
                self.check_query(chance, store, plain)
        for row in [("put", True), ("put_all", True), ("drop", True), ("seal", True), ("merge", True)]:
            self.assertIn((row, None), words)
        for word, kind in (("put", "Taken"), ("put_all", "Broken"), ("drop", "Gone"), ("seal", "Full"),
                           ("merge", "NoSize")):
            self.assertIn(((word, False), kind), words)

    def test_histories_told_at_each_deed(self):
        for seed in range(12):
            chance = random.Random(1000 + seed)
            store, plain = Store(2), PlainStore()
            for _ in range(30):
                self.check_deed(*some_deed(chance, store, plain, 9))
                self.check_told(store, plain)
                self.check_query(chance, store, plain)

    def some_rows(self, chance, many):
        """Rows of a plain store of which so many pages stand, in three to eight segments, and some are gone."""
        numbers = chance.sample(range(1, 300), many)
        segments = chance.randrange(max(3, -(-many // 55)), 9)
        rows = [[[number, "a b", True] for number in numbers[at::segments]] for at in range(segments)]
        for row in rows:
            others = [number for number in range(1, 300) if number not in [one for one, text, stands in row]]
            row += [[number, "c", False] for number in chance.sample(others, chance.randrange(5))]
        return [sorted(row) for row in rows]

    def test_histories_of_recovered_stores(self):
        words = set()
        for seed in range(40):
            chance = random.Random(3000 + seed)
            plain, size = PlainStore(), chance.randrange(1, 9)
            plain.row = self.some_rows(chance, chance.choice([119, 120, 121, 122, 125, 180, 240]))
            store = recovered_from(plain.row, size=size)
            self.check_told(store, plain)
            for _ in range(50):
                ahead = plain.numbers()
                deed, due = some_deed(chance, store, plain, 300)
                self.check_deed(deed, due)
                words.add((plain.deeds[-1], due[0] and due[0][0], len(ahead) > 120))
                if due[0] == ("Full", 120):
                    words.add(("Full", len(ahead) > 120))
            self.check_told(store, plain)
            self.check_query(chance, store, plain)
        for row in [("Full", False), ("Full", True), (("put", True), None, False), (("put_all", False), "Broken", True),
                    (("merge", True), None, True), (("drop", True), None, True)]:
            self.assertIn(row, words)
        self.assertNotIn((("put", True), None, True), words)

    def test_large_histories(self):
        kinds = set()
        for seed in range(6):
            chance = random.Random(2000 + seed)
            store, plain = Store(), PlainStore()
            for _ in range(400):
                deed, due = some_deed(chance, store, plain, 9999)
                kinds.add(due[0])
                self.check_deed(deed, due)
                if chance.random() < 0.1:
                    pages = [(chance.randrange(1, 9999), "a b") for _ in range(chance.randrange(20, 40))]
                    self.check_deed(lambda: store.put_all([Page(*one) for one in pages]), (plain.put_all(pages), None))
            self.check_told(store, plain)
            self.check_query(chance, store, plain)
        for kind in (("Full", 7), ("Full", 60), ("Full", 120)):
            self.assertIn(kind, kinds)


if __name__ == "__main__":
    unittest.main()
