"""Points 27, 28 and 29: bounds at slots, the early way's paper, the looker of such papers."""

import inspect
import random
import unittest
from fractions import Fraction
from unittest import mock

from blocksearch.best import Best, best_plain
from blocksearch.early import best_early, bound_at, holds_best
from blocksearch.errors import NoQuery, NoShelf, NoSize, NoSlot
from blocksearch.pages import Page
from blocksearch.ranks import Figures, bound, rank, share
from blocksearch.ratios import Ratio
from blocksearch.queries import is_query
from blocksearch.segments import Segment
from plain import best_by_sorting, bound_plainly, matches_plainly, rank_plainly, some_query, some_shelf, standing
from things import NO_QUERIES, NO_TEXTS, NO_WHOLES, NO_WORDS

A, B, C, D = [("word", letter) for letter in "abcd"]
# By slots: b stands at 1, 2, 4 and 6, a at 2, 3 and 5.
SEGMENT = Segment([Page(10, "c"), Page(20, "b"), Page(30, "a b a"), Page(40, "a"), Page(50, "b b c"), Page(60, "c a"),
                   Page(70, "b"), Page(80)], size=2)
OTHER = Segment([Page(15, "a a a"), Page(25, "b"), Page(30, "a a")], size=1)
SHELF = [(SEGMENT, [3]), (OTHER, [2])]
WRONG_SHELVES = [None, (), "", 5, [None], [(SEGMENT, [8])], [(SEGMENT, []), (SEGMENT, [])], [(SEGMENT, [])] * 9,
                 [[SEGMENT, []]]]


def value(ratio):
    return Fraction(ratio.top, ratio.bottom)


def is_number(thing):
    return isinstance(thing, int) and not isinstance(thing, bool)


def many_asks(seed, many, **named):
    chance = random.Random(seed)
    for _ in range(many):
        shelf, stands = some_shelf(chance, letters=chance.choice(["ab", "abc", "abcdef"]), **named)
        yield chance, shelf, stands, some_query(chance, "abc"), chance.choice([0, 1, 1, 2, 3, 5, 10, 200])


def early_plainly(shelf, query, k):
    """The paper that point 28 tells, slot by slot, with the plain reading of bounds, matches and ranks."""
    stands = standing(shelf)
    held, spans = [], []
    for segment, gone in shelf:
        row = []
        for slot, number in enumerate(segment.numbers()):
            most = bound_plainly(stands, query, segment, slot)
            if slot in gone or most == 0 or (-most, number) not in sorted(held + [(-most, number)])[:k]:
                if row and row[-1][0] == "left":
                    row[-1] = ("left", row[-1][1], slot)
                else:
                    row.append(("left", slot, slot))
            else:
                row.append(("seen", slot))
                page = segment.page(slot)
                if matches_plainly(query, page):
                    held = sorted(held + [(-rank_plainly(stands, query, page), number)])[:k]
        spans.append(row)
    told = [(number, (-worth).numerator, (-worth).denominator) for worth, number in held]
    return ("best", query, k, told, spans)


def has_form(shelf, thing):
    """Whether a thing has the form that points 28 and 29 tell."""
    if not isinstance(thing, tuple) or len(thing) != 5 or thing[0] != "best" or not is_query(thing[1]):
        return False
    kind, query, k, told, spans = thing
    if not is_number(k) or not 0 <= k <= 200 or not isinstance(told, list) or not isinstance(spans, list):
        return False
    for row in told:
        if not isinstance(row, tuple) or len(row) != 3 or not all(map(is_number, row)):
            return False
    if len(spans) != len(shelf):
        return False
    for row, (segment, gone) in zip(spans, shelf):
        come_to = []
        if not isinstance(row, list):
            return False
        for span in row:
            if not isinstance(span, tuple) or not span or not all(map(is_number, span[1:])):
                return False
            if (span[0], len(span)) not in (("seen", 2), ("left", 3)) or not 0 <= span[1] <= span[-1] < 60:
                return False
            come_to += range(span[1], span[-1] + 1)
        if come_to != list(range(len(segment))):
            return False
    return True


def holds_plainly(shelf, thing):
    """Point 29, word for word."""
    if not has_form(shelf, thing):
        return False
    kind, query, k, told, spans = thing
    stands = standing(shelf)
    seen = [segment.page(span[1]) for (segment, gone), row in zip(shelf, spans) for span in row
            if span[0] == "seen" and span[1] not in gone]
    best = best_by_sorting(stands, query, k, among=seen)
    if told != [(number, worth.numerator, worth.denominator) for number, worth in best]:
        return False
    for (segment, gone), row in zip(shelf, spans):
        for span in row:
            for slot in range(span[1], span[-1] + 1) if span[0] == "left" else ():
                most = bound_plainly(stands, query, segment, slot)
                if slot in gone or most == 0 or k == 0:
                    continue
                if len(best) < k or (-most, segment.numbers()[slot]) < (-best[-1][1], best[-1][0]):
                    return False
    return True


class BoundTests(unittest.TestCase):
    def check(self, query, at, slot, due):
        self.assertEqual(bound_at(SHELF, query, at, slot), due)

    def test_slots_within_between_ahead_and_behind(self):
        figures = Figures(SHELF)
        row = SEGMENT.row("b")
        first, second = [bound(figures, row, block) for block in row.blocks()]
        # The blocks of b reach from 1 to 2 and from 4 to 6.
        for slot, due in ((0, Ratio(0)), (1, first), (2, first), (3, Ratio(0)), (4, second), (5, second), (6, second),
                          (7, Ratio(0))):
            self.check(B, 0, slot, due)

    def test_a_gone_slot_has_its_bound(self):
        figures = Figures(SHELF)
        self.check(A, 0, 3, share(figures, "a", 2, 1))
        self.check(A, 1, 2, share(figures, "a", 2, 2))

    def test_a_word_that_no_page_has(self):
        for slot in range(8):
            self.check(("word", "zz"), 0, slot, Ratio(0))
            self.check(("and", B, ("word", "zz")), 0, slot, bound_at(SHELF, B, 0, slot))

    def test_words_wanted_twice_and_not_wanted(self):
        for slot in range(8):
            one, other = bound_at(SHELF, A, 0, slot), bound_at(SHELF, B, 0, slot)
            self.check(("and", A, A), 0, slot, one.plus(one))
            self.check(("near", 2, "a", "b"), 0, slot, one.plus(other))
            self.check(("but", A, B), 0, slot, one)

    def test_no_rank_of_a_page_there_is_greater(self):
        for chance, shelf, stands, query, k in many_asks(27, 60):
            figures = Figures(shelf)
            for at, (segment, gone) in enumerate(shelf):
                for slot in range(len(segment)):
                    told = bound_at(shelf, query, at, slot)
                    self.assertEqual(value(told), bound_plainly(stands, query, segment, slot))
                    self.assertIs(told.is_less(rank(figures, query, segment.page(slot))), False)

    def test_what_is_no_place_and_no_slot(self):
        for thing in NO_WHOLES + [-1, 2, 3, 8, 10 ** 60]:
            for slot in (0, None, 99):
                with self.assertRaises(NoSlot):
                    bound_at(SHELF, A, thing, slot)
        for thing in NO_WHOLES + [-1, 8, 9, 10 ** 60]:
            with self.assertRaises(NoSlot):
                bound_at(SHELF, A, 0, thing)
        with self.assertRaises(NoSlot):
            bound_at(SHELF, A, 1, 3)
        for at in (0, -1, None):
            with self.assertRaises(NoSlot):
                bound_at([], A, at, 0)

    def test_several_things_wrong_at_once(self):
        for shelf in WRONG_SHELVES:
            for query, at, slot in ((A, 0, 0), (None, None, None), (A, 9, 9)):
                with self.assertRaises(NoShelf):
                    bound_at(shelf, query, at, slot)
        for query in NO_QUERIES:
            for at, slot in ((0, 0), (None, None), (9, 0)):
                with self.assertRaises(NoQuery):
                    bound_at(SHELF, query, at, slot)

    def test_arguments_by_their_names(self):
        self.assertEqual(bound_at(slot=3, at=0, query=A, shelf=SHELF), bound_at(SHELF, A, 0, 3))


class EarlyTests(unittest.TestCase):
    def test_an_ordinary_shelf(self):
        # N is 9, L is 15, d is 5: a share is 2 times 15 t / (15 t + 15 + 9 m).
        self.assertEqual(best_early(SHELF, B, k=1), ("best", B, 1, [(50, 5, 6)], [
            [("left", 0, 0), ("seen", 1), ("left", 2, 3), ("seen", 4), ("seen", 5), ("seen", 6), ("left", 7, 7)],
            [("left", 0, 2)],
        ]))

    def test_a_bound_like_the_last_held_ratio(self):
        # The bound is then reached by no page of a greater number, but may be by one of a lesser number.
        one, two = Segment([Page(5, "a"), Page(9, "a")]), Segment([Page(2, "a"), Page(7, "a")], size=1)
        paper = best_early([(one, []), (two, [])], A, k=1)
        self.assertEqual(paper[3][0][0], 2)
        self.assertEqual(paper[4], [[("seen", 0), ("left", 1, 1)], [("seen", 0), ("left", 1, 1)]])
        self.assertIs(holds_best([(one, []), (two, [])], paper), True)

    def test_the_plain_ways_best(self):
        left = 0
        for chance, shelf, stands, query, k in many_asks(28, 250):
            kind, asked, many, told, spans = best_early(shelf, query, k=k)
            self.assertEqual((kind, asked, many), ("best", query, k))
            chance.shuffle(stands)
            best = best_plain(stands, query, k=k)
            self.assertEqual(told, [(number, ratio.top, ratio.bottom) for number, ratio in best.told()])
            left += sum(span[2] - span[1] + 1 for row in spans for span in row if span[0] == "left")
        self.assertGreater(left, 1000)

    def test_the_papers_word_for_word(self):
        for chance, shelf, stands, query, k in many_asks(82, 150, most_segments=3):
            self.assertEqual(best_early(shelf, query, k=k), early_plainly(shelf, query, k))

    def test_spans_come_to_each_slot_once(self):
        for chance, shelf, stands, query, k in many_asks(29, 100):
            spans = best_early(shelf, query, k=k)[4]
            self.assertTrue(has_form(shelf, best_early(shelf, query, k=k)))
            for row in spans:
                for one, other in zip(row, row[1:]):
                    self.assertFalse(one[0] == other[0] == "left")

    def test_the_empty_shelf_k_0_and_all_gone(self):
        self.assertEqual(best_early([], A), ("best", A, 10, [], []))
        self.assertEqual(best_early(SHELF, A, k=0), ("best", A, 0, [], [[("left", 0, 7)], [("left", 0, 2)]]))
        shelf = [(OTHER, [0, 1, 2])]
        self.assertEqual(best_early(shelf, A), ("best", A, 10, [], [[("left", 0, 2)]]))

    def test_k_left_out_is_10(self):
        self.assertEqual(best_early(SHELF, A)[2], 10)
        self.assertEqual(best_early(SHELF, A), best_early(SHELF, A, k=10))

    def test_the_def_is_called_for_each_page_that_is_put(self):
        for chance, shelf, stands, query, k in many_asks(30, 120):
            called = []
            paper = best_early(shelf, query, k=k, seen=called.append)
            self.assertEqual(paper, best_early(shelf, query, k=k, seen=None))
            due = [segment.numbers()[span[1]] for (segment, gone), row in zip(shelf, paper[4]) for span in row
                   if span[0] == "seen" and matches_plainly(query, segment.page(span[1]))]
            self.assertEqual(called, due)

    def test_what_the_def_raises_goes_out(self):
        class Stop(Exception):
            pass

        called = []

        def stop(number):
            called.append(number)
            if len(called) == 2:
                raise Stop(number)

        for _ in range(2):
            called.clear()
            with self.assertRaises(Stop):
                best_early(SHELF, B, seen=stop)
            self.assertEqual(called, [20, 30])
        self.assertEqual(best_early(SHELF, B), early_plainly(SHELF, B, 10))

    def test_the_def_is_called_just_ahead_of_each_put(self):
        rows = []

        class Watched(Best):
            def would_hold(self, number, ratio):
                rows.append(("ask", number))
                return Best.would_hold(self, number, ratio)

            def put(self, number, ratio):
                rows.append(("put", number))
                return Best.put(self, number, ratio)

        segment = Segment([Page(1, "a"), Page(2, "a"), Page(3, "a")])
        with mock.patch("blocksearch.early.Best", Watched):
            best_early([(segment, [])], A, k=2, seen=lambda number: rows.append(("def", number)))
        self.assertEqual(rows, [("ask", 1), ("def", 1), ("put", 1), ("ask", 2), ("def", 2), ("put", 2), ("ask", 3)])

    def test_a_def_that_changes_the_shelf(self):
        for chance, shelf, stands, query, k in many_asks(31, 40):
            due = best_early(shelf, query, k=k)
            inner = [gone for segment, gone in shelf]

            def spoil(number):
                shelf.clear()
                for gone in inner:
                    gone[:] = [0]

            self.assertEqual(best_early(shelf, query, k=k, seen=spoil), due)

    def test_a_def_that_asks(self):
        told = []
        best_early(SHELF, A, seen=lambda number: told.append(best_early(SHELF, B, k=1)))
        self.assertEqual(told[0], best_early(SHELF, B, k=1))

    def test_which_is_told_when_several_are_wrong(self):
        for shelf in WRONG_SHELVES:
            for query, k in ((A, 10), (None, 10), (A, 201), (None, None)):
                with self.assertRaises(NoShelf):
                    best_early(k=k, query=query, shelf=shelf)
        for query in NO_QUERIES:
            for k in (10, -1, None):
                for shelf in (SHELF, []):
                    with self.assertRaises(NoQuery):
                        best_early(shelf, query, k=k)
        called = []
        for k in NO_WHOLES + [-1, 201, 10 ** 60]:
            for shelf in (SHELF, []):
                with self.assertRaises(NoSize):
                    best_early(shelf, A, k=k, seen=called.append)
        self.assertEqual(called, [])

    def test_fields_of_wrong_shelves(self):
        for ask in (lambda shelf: best_early(shelf, A), lambda shelf: bound_at(shelf, A, 0, 0),
                    lambda shelf: holds_best(shelf, None)):
            for shelf, at in zip(WRONG_SHELVES, [None, None, None, None, 0, 0, 1, None, 0]):
                with self.assertRaises(NoShelf) as caught:
                    ask(shelf)
                self.assertEqual(caught.exception.at, at)

    def test_k_and_seen_go_by_their_names_alone(self):
        with self.assertRaises(TypeError):
            best_early(SHELF, A, 3)
        for name in ("k", "seen"):
            self.assertEqual(inspect.signature(best_early).parameters[name].kind, inspect.Parameter.KEYWORD_ONLY)

    def test_nothing_is_changed_and_each_list_is_a_new_one(self):
        shelf = [(SEGMENT, [3]), (OTHER, [2])]
        due = early_plainly(SHELF, A, 2)
        paper = best_early(shelf, A, k=2)
        self.assertEqual((shelf, paper), (SHELF, due))
        paper[3].clear()
        paper[4][0].append(None)
        paper[4].clear()
        self.assertEqual(best_early(shelf, A, k=2), due)
        shelf[0][1].clear()
        self.assertEqual(due, best_early(SHELF, A, k=2))

    def test_a_full_shelf(self):
        chance = random.Random(480)
        words = ["a", "b", "c", "d", "e", "f", "g", "h", "i", "j"]
        pages = [Page(number, " ".join(chance.choices(words, k=chance.randrange(121)))) for number in range(1, 481)]
        chance.shuffle(pages)
        shelf = [(Segment(pages[at:at + 60], size=8 - at // 60), []) for at in range(0, 480, 60)]
        query = ("or", ("phrase", "a", "b", "c"), ("near", 3, "d", "e"), ("but", A, ("word", "j")))
        paper = best_early(shelf, query, k=200)
        best = best_plain(pages, query, k=200)
        self.assertEqual(paper[3], [(number, ratio.top, ratio.bottom) for number, ratio in best.told()])
        self.assertIs(holds_best(shelf, paper), True)


def put_at(thing, path, new):
    """A copy of nested lists and tuples with another thing at one place."""
    if not path:
        return new
    parts = list(thing)
    parts[path[0]] = put_at(parts[path[0]], path[1:], new)
    return tuple(parts) if isinstance(thing, tuple) else parts


def all_paths(thing, path=()):
    yield path, thing
    if isinstance(thing, (list, tuple)):
        for at, one in enumerate(thing):
            yield from all_paths(one, path + (at,))


def changes_of(part, chance):
    """Things that may stand in a part's place."""
    others = [None, True, False, "", "best", "seen", "left", -1, 0, 1, 2, 10 ** 60, [], (), ("left", 0, 0), ("seen", 0)]
    if isinstance(part, int):
        others += [part + 1, part - 1, -part, 2 * part, str(part), [part], (part,)]
    if isinstance(part, str):
        others += [part.upper(), part + "a", "b"]
    if isinstance(part, (list, tuple)):
        kind = tuple if isinstance(part, tuple) else list
        others += [list(part), tuple(part), kind(reversed(part)), part[1:], part[:-1], part + part, part + kind([None])]
        for at in range(len(part)):
            others += [part[:at] + part[at + 1:], part[:at] + part[at:at + 1] + part[at:],
                       part[:at] + part[at + 1:at + 2] + part[at:at + 1] + part[at + 2:]]
        if len(part) == 2 and part[0] == "seen":
            others += [("left", part[1], part[1])]
        if len(part) == 3 and part[0] == "left":
            others += [("seen", part[1]), ("left", part[2], part[1]), ("left", part[1], part[2] - 1)]
    return chance.sample(others, min(len(others), 9))


def spans_changed(spans):
    """Rows of spans of the same slots: seen for left, left for seen, spans cut, all seen, all left."""
    for at, row in enumerate(spans):
        slots = [(span[0], slot) for span in row for slot in range(span[1], span[-1] + 1)]
        singles = [(kind, slot) if kind == "seen" else (kind, slot, slot) for kind, slot in slots]
        yield spans[:at] + [singles] + spans[at + 1:]
        yield spans[:at] + [[("seen", slot) for kind, slot in slots]] + spans[at + 1:]
        yield spans[:at] + [[("left", 0, len(slots) - 1)]] + spans[at + 1:]
        for slot in range(len(slots)):
            for other in (("seen", slot), ("left", slot, slot)):
                yield spans[:at] + [singles[:slot] + [other] + singles[slot + 1:]] + spans[at + 1:]


class LookerTests(unittest.TestCase):
    def check(self, shelf, thing):
        told = holds_best(shelf, thing)
        self.assertIs(told, holds_plainly(shelf, thing), (shelf, thing))
        return told

    def test_the_early_ways_papers_are_let_by(self):
        for chance, shelf, stands, query, k in many_asks(32, 200):
            self.assertIs(holds_best(shelf, best_early(shelf, query, k=k)), True)

    def test_what_it_lets_by_tells_just_the_best(self):
        let_by = 0
        for chance, shelf, stands, query, k in many_asks(33, 60, most_segments=2, most_pages=5):
            paper = best_early(shelf, query, k=k)
            for spans in spans_changed(paper[4]):
                for told in (paper[3], paper[3][:-1], []):
                    if self.check(shelf, ("best", query, k, told, spans)):
                        let_by += 1
                        best = best_plain(stands, query, k=k)
                        self.assertEqual(told, [(number, ratio.top, ratio.bottom) for number, ratio in best.told()])
        self.assertGreater(let_by, 300)

    def test_papers_changed_at_any_one_place(self):
        held = {True: 0, False: 0}
        for chance, shelf, stands, query, k in many_asks(34, 40, most_segments=2, most_pages=5):
            paper = best_early(shelf, query, k=k)
            for path, part in list(all_paths(paper)):
                for other in changes_of(part, chance):
                    held[self.check(shelf, put_at(paper, path, other))] += 1
        self.assertGreater(held[False], 3000)
        self.assertGreater(held[True], 100)

    def test_truths_for_numbers(self):
        segment = Segment([Page(1, "a"), Page(2, "a"), Page(3)])
        shelf = [(segment, [])]
        paper = best_early(shelf, A, k=1)
        self.assertEqual((paper[3][0][0], paper[4]), (1, [[("seen", 0), ("left", 1, 2)]]))
        self.assertIs(holds_best(shelf, paper), True)
        for path, truth in (((2,), True), ((3, 0, 0), True), ((4, 0, 0, 1), False), ((4, 0, 1, 1), True)):
            self.assertEqual(put_at(paper, path, truth), paper)
            self.assertIs(holds_best(shelf, put_at(paper, path, truth)), False)
        near = best_early(shelf, ("near", 1, "a", "a"), k=0)
        self.assertIs(holds_best(shelf, near), True)
        self.assertIs(holds_best(shelf, put_at(near, (1, 1), True)), False)
        self.assertIs(holds_best(shelf, put_at(near, (2,), False)), False)

    def test_top_and_bottom_that_are_truths(self):
        # N is 1, L is 2, d is 1: 2 times 4 / (4 + 2 + 2) is 1.
        shelf = [(Segment([Page(1, "a a")]), [])]
        paper = best_early(shelf, A, k=1)
        self.assertEqual(paper[3], [(1, 1, 1)])
        self.assertIs(holds_best(shelf, paper), True)
        for at in range(3):
            self.assertIs(holds_best(shelf, put_at(paper, (3, 0, at), True)), False)
        self.assertIs(holds_best(shelf, put_at(paper, (3, 0), (1, 2, 2))), False)
        self.assertIs(holds_best(shelf, put_at(paper, (3, 0), [1, 1, 1])), False)

    def test_left_spans_that_are_cut_hold_too(self):
        paper = best_early(SHELF, B, k=1)
        cut = put_at(paper, (4, 1), [("left", 0, 0), ("left", 1, 2)])
        self.assertIs(self.check(SHELF, cut), True)
        self.assertIs(self.check(SHELF, put_at(paper, (4, 1), [("left", 1, 2), ("left", 0, 0)])), False)

    def test_spans_that_come_to_no_slot(self):
        paper = best_early(SHELF, B, k=1)
        for span in (("left", 8, 7), ("left", 8, 6), ("left", 8), ("left",), ("seen",), ("seen", 8, 7), ("", 8, 7)):
            self.assertIs(self.check(SHELF, put_at(paper, (4, 0), paper[4][0] + [span])), False)
        for at in range(8):
            row = [("left", 0, at - 1)] * (at > 0) + [("left", at, at - 1), ("left", at, 7)]
            self.assertIs(self.check(SHELF, ("best", B, 0, [], [row, [("left", 0, 2)]])), False)
            row.pop(-2)
            self.assertIs(self.check(SHELF, ("best", B, 0, [], [row, [("left", 0, 2)]])), True)

    def test_seen_slots_that_might_be_left_hold_too(self):
        every = [[("seen", slot) for slot in range(len(segment))] for segment, gone in SHELF]
        for query in (A, B, ("and", A, B), ("but", A, B)):
            for k in (0, 1, 2, 200):
                paper = best_early(SHELF, query, k=k)
                self.assertIs(self.check(SHELF, put_at(paper, (4,), every)), True)

    def test_papers_for_another_shelf(self):
        paper = best_early(SHELF, A, k=2)
        for shelf in ([], SHELF[:1], SHELF[::-1], [(SEGMENT, []), (OTHER, [2])], [(SEGMENT, [3]), (OTHER, [0, 2])],
                      [(SEGMENT, [2, 3]), (OTHER, [])]):
            self.check(shelf, paper)
        self.assertIs(holds_best([], paper), False)
        self.assertIs(holds_best([], best_early([], A)), True)

    def test_things_that_are_no_papers(self):
        deep = ()
        for _ in range(7):
            deep = [deep]
        for shelf in (SHELF, []):
            for thing in NO_TEXTS + NO_WHOLES + NO_WORDS + NO_QUERIES + [
                    deep, "best", ("best",), ("best", A, 1, []), ("best", A, 1, [], [], []), ["best", A, 1, [], []],
                    ("best", A, 201, [], []), ("best", A, -1, [], []), ("yes", A, 0, [], []), ("best", A, 1, (), []),
                    ("best", A, 1, [], ()), ("best", None, 1, [], []), (None,) * 5, ([],) * 5,
                    ("best", A, 1, [()], [()]), ("best", A, 1, [(1, 0, 0)], [[], []]),
                    ("best", A, 1, [], [[("left", 0, 10 ** 300)], []]),
                    ("best", A, 0, [], [[("left", 0, 7)], [("left", -1, 2)]]), ("best", A, 0, [], [[()], [()]])]:
                self.assertIs(holds_best(shelf, thing), False)

    def test_nothing_is_changed(self):
        shelf = [(SEGMENT, [3]), (OTHER, [2])]
        paper = best_early(shelf, A, k=2)
        again = best_early(shelf, A, k=2)
        self.assertIs(holds_best(thing=paper, shelf=shelf), True)
        self.assertEqual((paper, shelf), (again, SHELF))


if __name__ == "__main__":
    unittest.main()
