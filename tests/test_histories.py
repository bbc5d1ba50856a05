"""Points 1, 2 and 3 over the whole program: drawn histories, told against the plain reading of the pages that stand."""

import copy
import random
import unittest

from blocksearch import errors
from blocksearch.best import best_plain
from blocksearch.commits import commit, deeds_of, play, recovered, standing
from blocksearch.desk import Desk
from blocksearch.disk import Disk
from blocksearch.early import best_early, holds_best
from blocksearch.errors import Full, Gone, NoFile, Taken, Torn
from blocksearch.found import matching_numbers
from blocksearch.grounds import paper_of
from blocksearch.looker import are_moves, holds
from blocksearch.pages import Page
from blocksearch.querytexts import show
from blocksearch.ranks import Figures, rank
from blocksearch.search import Search
from blocksearch.segments import Segment
from blocksearch.store import Store
from plain import best_by_sorting, matches_plainly, rank_plainly, some_query
from plainstore import PlainStore

REFUSALS = tuple(one for one in vars(errors).values() if isinstance(one, type) and issubclass(one, Exception))


def some_text(chance):
    return " ".join(chance.choices("abcd", k=chance.choice([0, 1, 2, 3, 5, 9])))


def set_aside(plain):
    """What is recovered of a store: all its pages sealed, as they stand and as they are gone."""
    twin = copy.deepcopy(plain)
    twin.deeds = []
    if twin.hand:
        twin.row.append([[number, text, True] for number, text in sorted(twin.hand)])
        twin.hand = []
    return twin


class Case(unittest.TestCase):
    def check_pages(self, store, plain):
        self.assertEqual(store.numbers(), plain.numbers())
        self.assertEqual(store.in_hand(), sorted(number for number, text in plain.hand))
        self.assertEqual(store.sealed(), len(plain.row))
        for page in plain.pages():
            self.assertEqual(store.page(page.number), page)
        self.assertEqual(store.log(last=10 ** 9), plain.deeds)

    def check_query(self, chance, store, plain):
        """What matches, the ranks, the best and the papers are those of the plain reading of the pages that stand."""
        query, k, shelf, pages = some_query(chance, "abcd"), chance.choice([0, 1, 2, 5, 200]), store.shelf(), plain.pages()
        matching = [page for page in pages if matches_plainly(query, page)]
        numbers = sorted(page.number for page in matching)
        self.assertEqual(matching_numbers(shelf, query), numbers)
        search = Search(shelf)
        self.assertEqual(search.matching(query), numbers)
        figures = Figures(shelf)
        for page in pages[:4]:
            ratio, due = rank(figures, query, page), rank_plainly(pages, query, page)
            self.assertEqual((ratio.top, ratio.bottom), (due.numerator, due.denominator))
        best = [(number, due.numerator, due.denominator) for number, due in best_by_sorting(pages, query, k)]
        paper = best_early(shelf, query, k=k)
        self.assertEqual(paper[3], best)
        self.assertIs(holds_best(shelf, paper), True)
        self.assertEqual(search.best(query, k=k), best_plain(pages, query, k=k))
        for page in pages[:4]:
            why = paper_of(query, page)
            self.assertEqual(why[0], "yes" if page in matching else "no")
            self.assertIs(holds(why, store.page(page.number)), True)

    def check_deed(self, deed, due):
        refused, answer = due
        if refused is None:
            self.assertEqual(deed(), answer)
            return
        with self.assertRaises(getattr(errors, refused[0])) as caught:
            deed()
        if refused[1] is not None:
            self.assertEqual(list(vars(caught.exception).values()), [refused[1]])


class StoreTests(Case):
    def some_deed(self, chance, store, plain):
        """One deed of chance to both."""
        word = chance.choice(["put"] * 3 + ["anew"] * 3 + ["all", "drop", "drop", "seal", "seal", "merge", "merge"])
        number, text = chance.randrange(1, 25), some_text(chance)
        if word in ("put", "anew"):
            anew = word == "anew"
            self.check_deed(lambda: store.put(Page(number, text), anew=anew), (plain.put(number, text, anew), None))
        elif word == "all":
            pages = [(chance.randrange(1, 25), some_text(chance)) for _ in range(chance.randrange(5))]
            self.check_deed(lambda: store.put_all([Page(*one) for one in pages], anew=True),
                            (plain.put_all(pages, True), None))
        elif word == "drop":
            self.check_deed(lambda: store.drop(number), (plain.drop(number), None))
        elif word == "seal":
            self.check_deed(store.seal, plain.seal())
        else:
            at, many, ahead = chance.randrange(4), chance.randrange(4), store.shelf()
            due = plain.merge(at, many)
            self.check_deed(lambda: store.merge(at=at, many=many), due)
            if due[0] is None:
                stands = bool(due[1])
                self.assertIs(are_moves(due[1], ahead[at:at + many], store.shelf()[at][0] if stands else None), True)

    def crash_amid(self, chance, store, disk, plain, former):
        """Do some deeds of a commit, crash, and tell the recovered store with its plain reading."""
        deeds = deeds_of(store, disk)
        head = [at for at, deed in enumerate(deeds) if deed[0] == "write" and deed[1][0] == "h"][0]
        many = chance.randrange(len(deeds) + 1)
        for deed in deeds[:many]:
            play(disk, deed)
        flushed = max([at + 1 for at in range(many) if deeds[at] == ("flush",)], default=0)
        waits = deeds[flushed:many]
        picks = [chance.choice([0, most, chance.randrange(most + 1)]) for most in
                 [len(deed[2]) + 1 if deed[0] == "write" else 1 for deed in waits]]
        disk.crash(picks=picks[:chance.choice([len(picks), chance.randrange(len(picks) + 1)])])
        due = set_aside(plain) if many > head + 1 else former
        if former is None and due is None and standing(disk) == []:
            with self.assertRaises((NoFile, Torn)):
                recovered(disk)
            return Store(store.size), PlainStore(), None
        again = recovered(disk)
        if many == head + 1 and again.shelf() == store.shelf():
            due = set_aside(plain)
        self.assertIsNotNone(due)
        self.check_pages(again, due)
        return again, copy.deepcopy(due), due

    def test_histories_with_commits_and_crashes(self):
        for seed in range(40):
            chance = random.Random(seed)
            store, plain, disk, former = Store(chance.randrange(1, 9)), PlainStore(), Disk(), None
            for _ in range(40):
                word = chance.choice(["deed"] * 8 + ["commit", "crash"])
                if word == "deed":
                    self.some_deed(chance, store, plain)
                elif word == "commit":
                    commit(store, disk)
                    former = set_aside(plain)
                else:
                    store, plain, former = self.crash_amid(chance, store, disk, plain, former)
                if chance.random() < 0.3:
                    self.check_query(chance, store, plain)
            self.check_pages(store, plain)

    def test_all_merged_are_the_one_segment_of_all_sealed_pages(self):
        for seed in range(40):
            chance = random.Random(seed)
            store, plain = Store(chance.randrange(1, 9)), PlainStore()
            for _ in range(30):
                self.some_deed(chance, store, plain)
            due = plain.sealed_pages()
            while store.sealed() > 1:
                many = chance.randrange(1, store.sealed() + 1)
                store.merge(at=chance.randrange(store.sealed() - many + 1), many=many)
            if store.sealed():
                store.merge(many=1)
            sealed = store.shelf()[:store.sealed()]
            self.assertEqual(sealed, [(Segment(due, size=store.size), [])] if due else [])


class DeskTests(Case):
    def some_row(self, chance, plain):
        """A row of a deed, and what the plain reading tells of it."""
        word = chance.choice(["put"] * 3 + ["anew"] * 2 + ["drop"] * 2 + ["seal"] * 2 + ["merge"])
        number, text = chance.randrange(1, 20), some_text(chance)
        if word in ("put", "anew"):
            return f"{word} {number} {text.replace(' ', ',') or '-'}", (plain.put(number, text, word == "anew"), "ok")
        if word == "drop":
            return f"drop {number}", (plain.drop(number), "ok")
        if word == "seal":
            refused, sealed = plain.seal()
            return "seal", (refused, "yes" if sealed else "no")
        at, many = chance.randrange(3), chance.randrange(4)
        refused, moves = plain.merge(at, many)
        return f"merge {at} {many}", (refused, str(len(moves or [])))

    def check_told(self, chance, desk, plain):
        listed = ",".join(str(number) for number in plain.numbers()) or "none"
        self.assertEqual(desk.say("pages"), listed)
        self.assertEqual(desk.say("hand"), ",".join(str(one) for one in sorted(one for one, text in plain.hand)) or "none")
        log = ",".join(word + "!" * (not done) for word, done in plain.deeds[-5:])
        self.assertEqual(desk.say("log"), log or "none")
        query, k, pages = some_query(chance, "abcd"), chance.choice([0, 1, 3, 200]), plain.pages()
        text = show(query).replace(" ", ",")
        matching = sorted(page.number for page in pages if matches_plainly(query, page))
        self.assertEqual(desk.say(f"find {text}"), ",".join(map(str, matching)) or "none")
        best = ",".join(f"{number}={due}" for number, due in best_by_sorting(pages, query, k))
        self.assertEqual(desk.say(f"best {k} {text}"), best or "none")
        for page in pages[:3]:
            self.assertEqual(desk.say(f"show {page.number}"), str(page).replace(" ", ",") or "-")
            self.assertEqual(desk.say(f"why {page.number} {text}"), "yes" if page.number in matching else "no")

    def some_picks(self, chance, desk):
        """Picks that are taken: none, or some that are tried on a twin of the disk."""
        for _ in range(9):
            picks = [chance.choice([0, 1, 1, chance.randrange(60)]) for _ in range(chance.randrange(1, 4))]
            try:
                desk.disk.twin().crash(picks=picks)
                return ",".join(map(str, picks))
            except errors.NoDeed:
                continue
        return "-"

    def test_drawn_rows(self):
        recoveries = set()
        for seed in range(50):
            chance = random.Random(seed)
            desk, plain = Desk(), PlainStore()
            # The sets that may be recovered: the last one that is there for good, and those that were begun since.
            possible = []
            for _ in range(60):
                word = chance.choice(["deed"] * 12 + ["part", "part", "whole", "crash", "crash"])
                if word == "deed":
                    row, (refused, answer) = self.some_row(chance, plain)
                    self.check_deed(lambda: desk.say(row), (refused, answer))
                elif word == "part":
                    self.assertEqual(desk.say(f"commit {chance.randrange(9)}"), "ok")
                    possible.append(set_aside(plain))
                elif word == "whole":
                    self.assertEqual(desk.say("commit 99"), "ok")
                    possible = [set_aside(plain)]
                else:
                    desk.say("crash " + self.some_picks(chance, desk))
                    plain = PlainStore()
                    try:
                        self.assertEqual(desk.say("recover"), "ok")
                    except (NoFile, Torn):
                        recoveries.add("none")
                        self.check_told(chance, desk, plain)
                        continue
                    due = [one for one in possible if self.same(desk, one)]
                    self.assertTrue(due)
                    recoveries.add(len(possible))
                    plain = copy.deepcopy(due[-1])
                    possible = [copy.deepcopy(due[-1])]
                self.check_told(chance, desk, plain)
        self.assertIn("none", recoveries)
        self.assertGreater(len(recoveries), 3)

    def same(self, desk, plain):
        """Whether a desk's store is what a plain reading tells, slot by slot."""
        segments = [(Segment([Page(one, text) for one, text, stands in row]),
                     [slot for slot, one in enumerate(row) if not one[2]]) for row in plain.row]
        return desk.store.shelf() == segments

    def test_whatever_is_refused_the_desk_is_as_it_was(self):
        rows = ["put 0 a", "put 1 A", "put 1 a a", "put", "", "drop 99", "drop x", "merge 0 9", "merge 9 0", "best 201 a",
                "best 3 (a", "show 77", "why 77 a", "why 1 A", "crash 9999", "crash 0,0,0,0,0,0,0,0,0,0", "crash x", "find (",
                "seal now", "recover it", "commit -1", "nothing", "put 10000 a", "anew 0 -"]
        for seed in range(12):
            chance = random.Random(seed)
            desk, plain = Desk(), PlainStore()
            for _ in range(25):
                row, (refused, answer) = self.some_row(chance, plain)
                self.check_deed(lambda: desk.say(row), (refused, answer))
                if chance.random() < 0.2:
                    desk.say(f"commit {chance.randrange(9)}")
                files = {name: desk.disk.read(name) for name in desk.disk.names()}
                waiting, shelf = desk.disk.waiting(), desk.store.shelf()
                for row in rows:
                    with self.assertRaises(REFUSALS):
                        desk.say(row)
                plain.deeds += [("drop", False), ("merge", False), ("merge", False)]
                self.assertEqual({name: desk.disk.read(name) for name in desk.disk.names()}, files)
                self.assertEqual((desk.disk.waiting(), desk.store.shelf()), (waiting, shelf))
                self.check_told(chance, desk, plain)


class LimitTests(Case):
    def test_a_full_store_at_all_its_edges(self):
        store, plain, disk = Store(), PlainStore(), Disk()
        chance = random.Random(120)
        texts = {number: " ".join(chance.choices("abcd", k=120)) for number in range(1, 121)}
        for first in (1, 31, 61):
            for number in range(first, first + 30):
                store.put(Page(number, texts[number]))
                plain.put(number, texts[number])
            store.seal()
            plain.seal()
        for number in range(91, 121):
            store.put(Page(number, texts[number]))
            plain.put(number, texts[number])
        with self.assertRaises(Full):
            store.put(Page(500))
        with self.assertRaises(Taken):
            store.put(Page(1))
        with self.assertRaises(Gone):
            store.drop(500)
        plain.deeds += [("put", False), ("put", False), ("drop", False)]
        self.check_pages(store, plain)
        commit(store, disk)
        again = recovered(disk)
        for _ in range(3):
            self.check_query(chance, store, plain)
            self.check_query(chance, again, set_aside(plain))
        self.assertEqual(again.shelf(), store.shelf())


if __name__ == "__main__":
    unittest.main()
