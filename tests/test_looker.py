"""Points 45 and 46: the looker, of papers of pages and of moves."""

import random
import unittest

from blocksearch.errors import Full
from blocksearch.grounds import paper_of
from blocksearch.looker import are_moves, holds
from blocksearch.pages import Page
from blocksearch.queries import is_query
from blocksearch.segments import Segment
from blocksearch.store import Store
from plain import matches_plainly, some_page, some_query, some_shelf
from plainpapers import all_paths, is_like, no_grounds, put_at, yes_grounds
from things import NO_QUERIES, NO_TEXTS, NO_WHOLES, NO_WORDS

A, B, C, D = [("word", letter) for letter in "abcd"]
PAGE = Page(7, "a b c a b a")
THINGS = NO_TEXTS + NO_WHOLES + NO_WORDS + NO_QUERIES + [{}, b"", ("yes",), ("yes", A), (None, None, None)]


def holds_plainly(thing, page):
    """Whether a thing is one of all papers that points 44 and 45 let hold, all of them written out."""
    if not isinstance(thing, tuple) or len(thing) != 3 or thing[0] not in ("yes", "no") or not is_query(thing[1]):
        return False
    grounds = (yes_grounds if thing[0] == "yes" else no_grounds)(thing[1], page)
    return any(is_like(ground, thing[2]) for ground in grounds)


def changes_of(part, chance):
    """Things that may stand in a part's place."""
    others = [None, True, False, 0, 1, 2, -1, 10 ** 60, "", "a", "at", "none", "all", (), [], ("none",), ("at", 0), ("at", 1),
              ("at", 0, 1)]
    if isinstance(part, int):
        others += [part + 1, part - 1, -part - 1, str(part), [part], (part,), bool(part)]
    if isinstance(part, str):
        others += ["yes", "no", "some", "lacks", "first", "second", "but", "b", "c", part.upper(), part + " "]
    if isinstance(part, (list, tuple)):
        kind = tuple if isinstance(part, tuple) else list
        others += [list(part), part[1:], part[:-1], part + part, part + kind([None]), part + kind(part[-1:]),
                   kind(reversed(part)), (part,), [part]]
        others += [part[:at] + part[at + 1:] for at in range(len(part))]
    return chance.sample(others, min(len(others), 8))


def some_case(seed):
    chance = random.Random(seed)
    return chance, some_page(chance, 5, "abc", 5), some_query(chance, "abcd", deep=chance.choice([1, 2, 3, 5]), room=6)


class HoldTests(unittest.TestCase):
    def check(self, thing, page):
        told = holds(thing, page)
        self.assertIs(told, holds_plainly(thing, page), (thing, page))
        return told

    def test_each_told_paper_is_let_by(self):
        for seed in range(500):
            chance = random.Random(seed)
            page, query = some_page(chance, 5, "abc", 12), some_query(chance, "abcd")
            paper = paper_of(query, page)
            self.assertIs(holds(paper, page), True)
            self.assertIs(holds((("no" if paper[0] == "yes" else "yes"), *paper[1:]), page), False)

    def test_all_other_right_grounds_are_let_by_too(self):
        others = 0
        for seed in range(900):
            chance, page, query = some_case(seed)
            yes, no = yes_grounds(query, page), no_grounds(query, page)
            for ground in (yes + no)[:60]:
                self.assertIs(holds(("yes" if yes else "no", query, ground), page), True)
                self.assertIs(holds(("no" if yes else "yes", query, ground), page), False)
            others += len(yes + no) - 1
        self.assertGreater(others, 300)

    def test_papers_changed_at_any_one_place(self):
        held = {True: 0, False: 0}
        for seed in range(200):
            chance, page, query = some_case(seed)
            for ground in (yes_grounds(query, page) + no_grounds(query, page))[:2]:
                paper = ("yes" if matches_plainly(query, page) else "no", query, ground)
                self.assertTrue(self.check(paper, page))
                for path, part in list(all_paths(paper)):
                    for other in changes_of(part, chance):
                        held[self.check(put_at(paper, path, other), page)] += 1
        self.assertGreater(held[True], 200)
        self.assertGreater(held[False], 5000)

    def test_papers_held_against_another_page(self):
        held = {True: 0, False: 0}
        for seed in range(300):
            chance, page, query = some_case(seed)
            for _ in range(6):
                held[self.check(paper_of(query, page), some_page(chance, 6, "abc", 5))] += 1
        self.assertGreater(min(held.values()), 200)

    def test_single_papers(self):
        near, phrase = ("near", 2, "a", "b"), ("phrase", "a", "b")
        for paper, due in (
            (("yes", A, ("at", 0)), True), (("yes", A, ("at", 3)), True), (("yes", A, ("at", 5)), True),
            (("yes", A, ("at", 1)), False), (("yes", A, ("at", 6)), False), (("yes", A, ("at", -1)), False),
            (("yes", A, ("at", -3)), False), (("yes", A, ("at", False)), False), (("yes", B, ("at", True)), False),
            (("yes", B, ("at", 1)), True), (("yes", A, ["at", 0]), False), (["yes", A, ("at", 0)], False),
            (("yes", ["word", "a"], ("at", 0)), False), (("yes", A, ("at",)), False), (("yes", A, ("at", 0, 0)), False),
            (("yes", A, ("at", (0,))), False), (("yes", A, ("none",)), False), (("no", A, ("none",)), False),
            (("no", D, ("none",)), True), (("no", D, ("none", 0)), False), (("no", D, ()), False),
            (("no", D, "none"), False), (("no", D, ["none"]), False), (("no", D, ("at", 0)), False),
            (("Yes", A, ("at", 0)), False), (("maybe", A, ("at", 0)), False), (("yes", A, ("at", 0), None), False),
            (("yes", phrase, ("at", 0)), True), (("yes", phrase, ("at", 3)), True), (("yes", phrase, ("at", 5)), False),
            (("yes", near, ("at", 0, 1)), True), (("yes", near, ("at", 3, 1)), True), (("yes", near, ("at", 5, 4)), True),
            (("yes", near, ("at", 1, 0)), False), (("yes", near, ("at", 0, 4)), False), (("yes", near, ("at", 0)), False),
            (("yes", near, ("at", (0, 1))), False), (("yes", near, ("at", 0, True)), False),
            (("yes", near, ("at", False, 1)), False),
            (("yes", ("or", D, A), ("some", 1, ("at", 0))), True), (("yes", ("or", D, A), ("some", 0, ("at", 0))), False),
            (("yes", ("or", D, A), ("some", -1, ("at", 0))), False), (("yes", ("or", D, A), ("some", 2, ("at", 0))), False),
            (("yes", ("or", D, A), ("some", True, ("at", 0))), False), (("yes", ("or", A, B), ("some", 1, ("at", 4))), True),
            (("yes", ("or", D, A), ("some", 3, ("at", 0))), False), (("yes", ("or", A, B), ("all", ("at", 0))), False),
            (("no", ("and", D, A), ("lacks", 0, ("none",))), True), (("no", ("and", D, A), ("lacks", -2, ("none",))), False),
            (("no", ("and", D, A), ("lacks", False, ("none",))), False),
            (("no", ("and", D, A), ("lacks", 1, ("none",))), False),
            (("yes", ("and", A, B), ("all", ("at", 0), ("at", 1))), True),
            (("yes", ("and", A, B), ("all", ("at", 0))), False),
            (("yes", ("and", A, B), ("all", ("at", 0), ("at", 1), ("at", 1))), False),
            (("yes", ("and", A, B), ("all", ("at", 1), ("at", 0))), False),
            (("no", ("but", D, B), ("first", ("none",))), True), (("no", ("but", D, B), ("second", ("at", 1))), True),
            (("no", ("but", D, B), ("second", ("at", 0))), False), (("no", ("but", D, B), ("first", ("at", 1))), False),
            (("no", ("but", D, B), ("first", ("none",), ("at", 1))), False),
            (("yes", ("but", A, D), ("but", ("at", 0), ("none",))), True),
            (("yes", ("but", A, B), ("but", ("at", 0), ("none",))), False),
            (("yes", ("but", A, D), ("but", ("at", 0))), False),
        ):
            self.assertIs(holds(paper, PAGE), due, paper)
            self.check(paper, PAGE)

    def test_things_of_any_kind(self):
        for thing in THINGS:
            for page in (PAGE, Page(1)):
                self.assertIs(holds(thing, page), False)
                for query in (A, ("and", A, B), ("or", A, D), ("but", A, D), ("but", D, A), ("near", 1, "a", "b")):
                    for word in ("yes", "no"):
                        self.assertIs(holds((word, query, thing), page), False)
                        self.assertIs(holds((word, thing, ("at", 0)), page), False)
                        self.assertIs(holds((thing, query, ("at", 0)), page), False)

    def test_papers_of_just_one_word_hold(self):
        for seed in range(200):
            chance, page, query = some_case(seed)
            grounds = yes_grounds(query, page)[:9] + no_grounds(query, page)[:9] + [("none",), ("at", 0)]
            words = {word for word in ("yes", "no") for ground in grounds if holds((word, query, ground), page)}
            self.assertEqual(words, {"yes" if matches_plainly(query, page) else "no"})

    def test_nothing_is_changed(self):
        paper = ["yes", A, ["at", 0]]
        holds(paper=paper, page=PAGE)
        self.assertEqual((paper, PAGE), (["yes", A, ["at", 0]], Page(7, "a b c a b a")))


def moves_plainly(moves, shelf, segment):
    """Point 46 word for word."""
    pages = [(at, slot, part.page(slot)) for at, (part, gone) in enumerate(shelf) for slot in range(len(part))
             if slot not in gone]
    if segment is None:
        return is_like(moves, []) and pages == []
    numbers = segment.numbers()
    due = [(at, slot, numbers.index(page.number)) for at, slot, page in pages if page.number in numbers]
    same = [segment.page(new) == page for (at, slot, new), (one, other, page) in zip(due, pages)]
    return len(due) == len(pages) == len(numbers) and all(same) and is_like(moves, due)


class MoveTests(unittest.TestCase):
    def check(self, moves, shelf, segment):
        told = are_moves(moves, shelf, segment)
        self.assertIs(told, moves_plainly(moves, shelf, segment), (moves, shelf, segment))
        return told

    def merges(self, many):
        """Shelves, with the moves and the segment of the merge of all."""
        for seed in range(many):
            chance = random.Random(seed)
            shelf, stands = some_shelf(chance, most_segments=4, most_pages=5)
            store = Store(chance.randrange(1, 9))
            store.parts = tuple((segment, tuple(gone)) for segment, gone in shelf)
            if shelf:
                moves = store.merge(many=len(shelf))
                yield chance, shelf, moves, (store.shelf() or [(None, [])])[0][0], stands

    def test_told_moves_are_let_by(self):
        for chance, shelf, moves, segment, stands in self.merges(200):
            self.assertIs(are_moves(moves, shelf, segment), True)
            self.assertIs(are_moves(moves=moves, shelf=shelf, segment=segment), True)
            self.check(moves, shelf, segment)

    def test_moves_of_a_stores_merges(self):
        for seed in range(60):
            chance = random.Random(seed)
            store = Store()
            for _ in range(30):
                store.put(some_page(chance, chance.randrange(1, 25), "abc"), anew=True)
                if chance.random() < 0.25 and store.sealed() < 7:
                    store.seal()
            while store.sealed():
                at = chance.randrange(store.sealed())
                many = chance.randrange(1, store.sealed() - at + 1)
                ahead, count = store.shelf()[at:at + many], store.sealed()
                moves = store.merge(at=at, many=many)
                segment = store.shelf()[at][0] if store.sealed() > count - many else None
                self.assertIs(are_moves(moves, ahead, segment), True)
                if many == count:
                    break

    def test_moves_changed_at_any_one_place(self):
        held = {True: 0, False: 0}
        for chance, shelf, moves, segment, stands in self.merges(60):
            for at in range(len(moves)):
                for other in (moves[:at] + moves[at + 1:], moves[:at] + moves[at:at + 1] + moves[at:],
                              moves[:at] + moves[at + 1:at + 2] + moves[at:at + 1] + moves[at + 2:]):
                    held[self.check(other, shelf, segment)] += 1
            for path, part in list(all_paths(moves)):
                for other in changes_of(part, chance):
                    held[self.check(put_at(moves, path, other), shelf, segment)] += 1
        self.assertGreater(held[False], 3000)

    def test_another_segment_or_shelf(self):
        for chance, shelf, moves, segment, stands in self.merges(100):
            self.check(moves, shelf, None)
            self.check([], shelf, segment)
            if segment is None:
                continue
            others = [Segment(stands[1:] or [Page(1)]), Segment(stands + [Page(10, "x")] if 10 not in segment.numbers()
                                                                 else stands)]
            one = chance.randrange(len(stands))
            changed = Page(stands[one].number, str(stands[one]) + " a" if len(stands[one]) else "a")
            others += [Segment(stands[:one] + [changed] + stands[one + 1:])]
            for other in others:
                self.check(moves, shelf, other)
            self.assertIs(are_moves(moves, shelf, others[2]), False)
            # The size of the segment is none of the moves' business.
            self.assertIs(are_moves(moves, shelf, Segment(stands, size=chance.randrange(1, 9))), True)
            self.check(moves, shelf[1:], segment)
            self.check(moves, [(part, []) for part, gone in shelf][:1], segment)

    def test_no_segment(self):
        part = Segment([Page(1, "a"), Page(2)])
        self.assertIs(are_moves([], [(part, [0, 1])], None), True)
        self.assertIs(are_moves([], [], None), True)
        self.assertIs(are_moves([], [(part, [0])], None), False)
        self.assertIs(are_moves([(0, 1, 0)], [(part, [0])], None), False)
        self.assertIs(are_moves([(0, 1, 0)], [(part, [0])], Segment([Page(2)])), True)
        self.assertIs(are_moves([], [(part, [0, 1])], Segment([Page(2)])), False)
        self.assertIs(are_moves([], [], Segment([Page(2)])), False)

    def test_truths_lists_and_tuples(self):
        shelf, segment = [(Segment([Page(1, "a")]), []), (Segment([Page(2, "b")]), [])], Segment([Page(1, "a"), Page(2, "b")])
        moves = [(0, 0, 0), (1, 0, 1)]
        self.assertIs(are_moves(moves, shelf, segment), True)
        for wrong in ([(0, 0, 0), (True, 0, 1)], [(False, 0, 0), (1, 0, 1)], [(0, 0, 0), (1, 0, True)], [[0, 0, 0], (1, 0, 1)],
                      tuple(moves), [(0, 0, 0, 0), (1, 0, 1)], [(0, 0), (1, 0)], [(0, 0, 1), (1, 0, 0)],
                      [(1, 0, 1), (0, 0, 0)], [(0, 0, 0), (1, 0, 0)], [(0, 0, 0), (1, 0, 2)], [(0, 0, 0), (1, 0, -1)],
                      [(0, 0, 0)], [(1, 0, 1)], moves + [(1, 0, 1)], moves + [(2, 0, 2)]):
            self.assertIs(are_moves(wrong, shelf, segment), False, wrong)

    def test_things_of_any_kind(self):
        part = Segment([Page(1, "a")])
        for thing in THINGS + [[None], [()], [(0,)], [(0, 0, None)], [("a", "b", "c")], [([], [], [])]]:
            for shelf, segment in (([(part, [])], part), ([(part, [0])], part), ([], part), ([(part, [])], None)):
                self.assertIs(are_moves(thing, shelf, segment), False)
            self.assertIs(are_moves(thing, [(part, [0])], None), is_like(thing, []))

    def test_more_than_sixty(self):
        store = Store()
        for first in (1, 41):
            store.put_all([Page(number) for number in range(first, first + 40)])
            store.seal()
        with self.assertRaises(Full):
            store.merge()
        shelf = store.shelf()
        self.assertIs(are_moves([(at, slot, at * 40 + slot) for at in range(2) for slot in range(40)], shelf, shelf[0][0]),
                      False)


if __name__ == "__main__":
    unittest.main()
