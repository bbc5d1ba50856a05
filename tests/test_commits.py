"""Points 41, 42 and 43: sets, commits, what is recovered."""

import itertools
import random
import unittest

from blocksearch.commits import commit, deeds_of, play, recovered, standing
from blocksearch.disk import Disk
from blocksearch.errors import NoFile, Torn
from blocksearch.files import rows_of, segment_rows, whole_text
from blocksearch.pages import Page
from blocksearch.segments import Segment
from blocksearch.store import Store, store_of
from plain import some_page
from plainfiles import rows_plainly, segment_rows_plainly, serials_plainly, set_plainly, text_plainly

FLUSH = ("flush",)


def store_with(*segments, hand=(), size=4):
    """A store with sealed segments of such pages, (number, text) each, put anew, and others in hand."""
    store = Store(size)
    for pages in segments:
        store.put_all([Page(*page) for page in pages], anew=True)
        store.seal()
    store.put_all([Page(*page) for page in hand], anew=True)
    return store


def disk_with(files):
    disk = Disk()
    for name, text in files.items():
        disk.write(name, text)
    disk.flush()
    return disk


def files_of(disk):
    return {name: disk.read(name) for name in disk.names()}


def text_of(pages, size=4):
    return text_plainly(segment_rows_plainly([Page(*page) for page in pages], size))


def write(name, *rows):
    return ("write", name, text_plainly(list(rows)))


def told(store):
    return store.size, store.shelf()


def most_pick(deed):
    return len(deed[2]) + 1 if deed[0] == "write" else 1


class DeedTests(unittest.TestCase):
    def check_deeds(self, store, disk, due):
        """The deeds are as due; to tell them changes nothing; played one by one they come to what commit comes to."""
        before, shelf, log = files_of(disk), told(store), store.log(last=99)
        waiting = disk.waiting()
        deeds = deeds_of(store, disk)
        self.assertEqual(deeds, due)
        self.assertIsInstance(deeds, list)
        deeds.clear()
        self.assertEqual((files_of(disk), disk.waiting()), (before, waiting))
        self.assertEqual((told(store), store.log(last=99)), (shelf, log))
        self.assertEqual(deeds_of(store=store, disk=disk), due)
        twin = disk.twin()
        for deed in due:
            self.assertIsNone(play(twin, deed))
        serial = commit(store, disk)
        self.assertEqual(("write", f"h{serial}"), [deed for deed in due if deed[0] == "write"][-1][:2])
        self.assertEqual((files_of(disk), disk.waiting()), (files_of(twin), twin.waiting()))
        self.assertEqual(disk.waiting(), 0)
        self.assertEqual((told(store), store.log(last=99)), (shelf, log))
        self.assertEqual(standing(disk), [serial])
        disk.crash()
        self.assertEqual(told(recovered(disk)), shelf)
        return serial

    def test_the_first_one(self):
        store, disk = store_with([(1, "a"), (2, "b")], hand=[(3, "c")]), Disk()
        store.drop(1)
        serial = self.check_deeds(store, disk, [
            ("write", "s1.0", text_of([(1, "a"), (2, "b")])), ("write", "s1.1", text_of([(3, "c")])), FLUSH,
            write("h1", "1", "4", "s1.0 0", "s1.1"), FLUSH, FLUSH])
        self.assertEqual((serial, disk.names()), (1, ["h1", "s1.0", "s1.1"]))

    def test_one_with_nothing_new(self):
        store, disk = store_with([(1, "a")], hand=[(3, "c")]), Disk()
        commit(store, disk)
        serial = self.check_deeds(store, disk, [
            FLUSH, write("h2", "2", "4", "s1.0", "s1.1"), FLUSH, ("erase", "h1"), FLUSH])
        self.assertEqual((serial, disk.names()), (2, ["h2", "s1.0", "s1.1"]))

    def test_files_that_are_kept(self):
        store, disk = store_with([(1, "a")], [(2, "b"), (3, "b")], [(4, "d")]), Disk()
        commit(store, disk)
        store.drop(3)
        store.put(Page(5, "e"))
        self.check_deeds(store, disk, [
            ("write", "s2.3", text_of([(5, "e")])), FLUSH,
            write("h2", "2", "4", "s1.0", "s1.1 1", "s1.2", "s2.3"), FLUSH, ("erase", "h1"), FLUSH])
        store.merge(at=0, many=2)
        self.check_deeds(store, disk, [
            ("write", "s3.0", text_of([(1, "a"), (2, "b")])), FLUSH,
            write("h3", "3", "4", "s3.0", "s1.2", "s2.3"), FLUSH,
            ("erase", "h2"), ("erase", "s1.0"), ("erase", "s1.1"), FLUSH])
        # The hand is written anew when it has other pages; sealed, it keeps its file.
        store.seal()
        self.check_deeds(store, disk, [
            FLUSH, write("h4", "4", "4", "s3.0", "s1.2", "s2.3"), FLUSH, ("erase", "h3"), FLUSH])

    def test_two_segments_of_the_same_text(self):
        store, disk = store_with([(1, "a")], [(1, "a")]), Disk()
        text = text_of([(1, "a")])
        self.check_deeds(store, disk, [
            ("write", "s1.0", text), ("write", "s1.1", text), FLUSH, write("h1", "1", "4", "s1.0 0", "s1.1"), FLUSH,
            FLUSH])
        self.check_deeds(store, disk, [
            FLUSH, write("h2", "2", "4", "s1.0 0", "s1.0"), FLUSH, ("erase", "h1"), ("erase", "s1.1"), FLUSH])
        store.put(Page(1, "a"), anew=True)
        self.check_deeds(store, disk, [
            FLUSH, write("h3", "3", "4", "s1.0 0", "s1.0 0", "s1.0"), FLUSH, ("erase", "h2"), FLUSH])

    def test_the_first_of_like_ones_by_the_heads_rows(self):
        text = text_of([(1, "a")])
        files = {"s1.5": text, "s2.1": text, "h2": text_plainly(["2", "4", "s2.1 0", "s1.5"])}
        store, disk = store_with([(1, "a")]), disk_with(files)
        self.check_deeds(store, disk, [
            FLUSH, write("h3", "3", "4", "s2.1"), FLUSH, ("erase", "h2"), ("erase", "s1.5"), FLUSH])

    def test_an_empty_store(self):
        store, disk = Store(7), Disk()
        self.check_deeds(store, disk, [FLUSH, write("h1", "1", "7"), FLUSH, FLUSH])
        self.check_deeds(store, disk, [FLUSH, write("h2", "2", "7"), FLUSH, ("erase", "h1"), FLUSH])

    def test_eight_segments(self):
        store = store_with(*[[(number, "a")] for number in range(1, 8)], hand=[(8, "a")])
        texts = [text_of([(number, "a")]) for number in range(1, 9)]
        disk = Disk()
        self.check_deeds(store, disk, [
            *[("write", f"s1.{at}", text) for at, text in enumerate(texts)], FLUSH,
            write("h1", "1", "4", *[f"s1.{at}" for at in range(8)]), FLUSH, FLUSH])
        store = recovered(disk)
        self.assertEqual((store.sealed(), store.in_hand(), len(store)), (8, [], 8))

    def test_files_of_other_names_are_erased(self):
        files = {"zz": "", "a": "text", "s9.9": "", "h0": "", "h01": "", "h1000000": "", "hx": "", "h": "", ".": "",
                 "s1.0": "an older one", "h1.0": "", "s": ""}
        store, disk = store_with([(1, "a")]), disk_with(files)
        self.check_deeds(store, disk, [
            ("write", "s1.0", text_of([(1, "a")])), FLUSH, write("h1", "1", "4", "s1.0"), FLUSH,
            *[("erase", name) for name in sorted(files) if name != "s1.0"], FLUSH])
        self.assertEqual(disk.names(), ["h1", "s1.0"])

    def test_the_serial(self):
        for names, due in (([], 1), (["h0", "h01", "h1000000", "hx", "h", "1", "s5.0", "h1a", "h2.", "h00"], 1),
                           (["h1"], 2), (["h9", "h10"], 11), (["h99", "h100", "h5"], 101), (["h999998"], 999999),
                           (["h7", "h2000000", "h09"], 8)):
            disk = disk_with({name: "no head" for name in names})
            self.assertEqual(commit(Store(), disk), due)
            self.assertEqual(disk.names(), [f"h{due}"])

    def test_a_standing_head_below_one_that_doesnt(self):
        store, disk = store_with([(1, "a")]), Disk()
        commit(store, disk)
        disk.write("h7", "torn")
        disk.write("s7.0", "torn")
        disk.flush()
        self.check_deeds(store, disk, [
            FLUSH, write("h8", "8", "4", "s1.0"), FLUSH, ("erase", "h1"), ("erase", "h7"), ("erase", "s7.0"), FLUSH])

    def test_the_newest_of_several_standing_heads(self):
        one, two = text_of([(1, "a")]), text_of([(2, "b")])
        files = {"s1.0": one, "s2.0": two, "h1": text_plainly(["1", "4", "s1.0"]), "h2": text_plainly(["2", "4", "s2.0"])}
        store, disk = store_with([(1, "a")], [(2, "b")]), disk_with(files)
        # The file of the older head has the same text, but only those of the newest one are kept.
        self.check_deeds(store, disk, [
            ("write", "s3.0", one), FLUSH, write("h3", "3", "4", "s3.0", "s2.0"), FLUSH, ("erase", "h1"), ("erase", "h2"),
            ("erase", "s1.0"), FLUSH])

    def test_another_size_keeps_no_file(self):
        disk = Disk()
        commit(store_with([(1, "a")], size=4), disk)
        self.check_deeds(store_with([(1, "a")], size=2), disk, [
            ("write", "s2.0", text_of([(1, "a")], 2)), FLUSH, write("h2", "2", "2", "s2.0"), FLUSH, ("erase", "h1"),
            ("erase", "s1.0"), FLUSH])

    def test_deeds_that_wait_already(self):
        store, disk = store_with([(1, "a")]), Disk()
        for deed in deeds_of(store, disk)[:1]:
            play(disk, deed)
        self.assertEqual(disk.waiting(), 1)
        store.put(Page(2, "b"))
        self.check_deeds(store, disk, [
            ("write", "s1.0", text_of([(1, "a")])), ("write", "s1.1", text_of([(2, "b")])), FLUSH,
            write("h1", "1", "4", "s1.0", "s1.1"), FLUSH, FLUSH])
        disk.write("h5", "waits")
        disk.write("x", "waits")
        disk.erase("s1.1")
        self.check_deeds(store, disk, [
            ("write", "s6.0", text_of([(1, "a")])), ("write", "s6.1", text_of([(2, "b")])), FLUSH,
            write("h6", "6", "4", "s6.0", "s6.1"), FLUSH, ("erase", "h1"), ("erase", "h5"), ("erase", "s1.0"),
            ("erase", "x"), FLUSH])

    def test_play(self):
        disk = Disk()
        self.assertIsNone(play(disk, ("write", "a", "text")))
        self.assertEqual((disk.waiting(), disk.read("a")), (1, "text"))
        self.assertIsNone(play(disk=disk, deed=("flush",)))
        self.assertEqual(disk.waiting(), 0)
        self.assertIsNone(play(disk, ("erase", "a")))
        self.assertEqual((disk.waiting(), disk.names()), (1, []))


class CrashTests(unittest.TestCase):
    def histories(self):
        """Stores that were committed, and what they are when they are committed again."""
        one = store_with([(1, "a"), (2, "b a")], [(3, "c")])
        yield Store(), one
        yield one, store_with([(1, "a"), (2, "b a")], [(3, "c")], hand=[(2, "z"), (4, "")])
        yield one, store_with([(1, "a"), (2, "b a"), (3, "c")])
        yield one, Store()
        yield one, one
        yield store_with([(1, "a")], [(1, "a")]), store_with([(1, "a")], [(1, "a")], [(1, "a"), (9, "q")])
        yield one, store_with([(1, "a"), (2, "b a")], [(3, "c")], size=3)

    def waiting_picks(self, waits):
        """All 0, all the greatest, and each pick of each deed, the others 0 or the greatest."""
        most = [most_pick(deed) for deed in waits]
        yield [0] * len(most)
        yield most
        yield []
        for at, top in enumerate(most):
            for pick in range(top + 1):
                yield [0] * at + [pick]
                yield most[:at] + [pick] + most[at + 1:]

    def crashes(self, store, disk):
        """The disk behind a crash at each deed of a commit, with how many deeds were done, and which is the head's."""
        deeds = deeds_of(store, disk)
        head = [at for at, deed in enumerate(deeds) if deed[0] == "write" and deed[1][0] == "h"][0]
        for many in range(len(deeds) + 1):
            done = disk.twin()
            for deed in deeds[:many]:
                play(done, deed)
            flushed = max([at for at in range(many) if deeds[at] == FLUSH], default=-1)
            for picks in self.waiting_picks(deeds[flushed + 1:many]):
                crashed = done.twin()
                crashed.crash(picks=picks)
                yield crashed, many, head

    def test_a_crash_at_each_deed(self):
        news = 0
        for former, new in self.histories():
            disk = Disk()
            commit(former, disk)
            for crashed, many, head in self.crashes(new, disk):
                store = recovered(crashed)
                self.assertIn(told(store), (told(former), told(new)))
                if many <= head:
                    self.assertEqual(told(store), told(former))
                if many > head + 1:
                    self.assertEqual(told(store), told(new))
                if many == head + 1:
                    news += told(store) == told(new)
        self.assertGreater(news, 5)

    def test_a_crash_of_the_first_commit(self):
        new = store_with([(1, "a"), (2, "b a")], [(3, "c")])
        for crashed, many, head in self.crashes(new, Disk()):
            if many > head + 1 or 1 in standing(crashed):
                self.assertEqual(told(recovered(crashed)), told(new))
                continue
            with self.assertRaises((NoFile, Torn)) as caught:
                recovered(crashed)
            self.assertEqual(caught.exception.name, "h1" if "h1" in crashed.names() else "head")

    def test_the_heads_own_deed_is_cut_at_each_place(self):
        former, new = store_with([(1, "a")]), store_with([(1, "a")], [(2, "b")])
        disk = Disk()
        commit(former, disk)
        deeds = deeds_of(new, disk)
        for deed in deeds[:3]:
            play(disk, deed)
        for pick in range(len(deeds[2][2]) + 2):
            crashed = disk.twin()
            crashed.crash(picks=[pick])
            self.assertEqual(told(recovered(crashed)), told(new if pick == len(deeds[2][2]) + 1 else former))

    def test_a_second_crash_amid_the_next_commit(self):
        chance = random.Random(43)
        one, two = store_with([(1, "a"), (2, "b a")]), store_with([(1, "a"), (2, "b a")], [(3, "c")])
        disk = Disk()
        commit(one, disk)
        for crashed, many, head in self.crashes(two, disk):
            if chance.random() < 0.7:
                continue
            former = recovered(crashed)
            new = recovered(crashed)
            new.put(Page(9, "x"))
            new.drop(1)
            for again, many, head in self.crashes(new, crashed):
                store = recovered(again)
                self.assertIn(told(store), (told(former), told(new)))
                if many <= head:
                    self.assertEqual(told(store), told(former))
                if many > head + 1:
                    self.assertEqual(told(store), told(new))

    def test_a_commit_behind_a_crash_clears_what_was_left(self):
        one, two = store_with([(1, "a")]), store_with([(1, "a")], [(2, "b")])
        disk = Disk()
        commit(one, disk)
        for crashed, many, head in self.crashes(two, disk):
            commit(two, crashed)
            names = crashed.names()
            self.assertEqual((len(names), [name[0] for name in names]), (3, ["h", "s", "s"]))
            self.assertEqual(told(recovered(crashed)), told(two))


# A disk with one older head that stands, and parts for newer ones.
PAGES = [(1, "a"), (2, "b"), (3, "a b"), (4, "")]
OTHERS = [(3, "z"), (5, "y")]
BASE = {"s1.0": text_of([(7, "old")]), "h1": text_plainly(["1", "4", "s1.0"]),
        "s5.0": text_of(PAGES), "s5.1": text_of(OTHERS), "s4.9": text_of([(9, "q")]), "s2.0": text_of(PAGES, 2)}
OLD = (4, [(Segment([Page(7, "old")]), [])])


class HeadTests(unittest.TestCase):
    def stands(self, *rows, serial=5, **files):
        """Whether a head of such rows stands beside the others; if not, the older one is taken."""
        disk = disk_with({**BASE, **{name.replace("_", "."): text for name, text in files.items()},
                          f"h{serial}": text_plainly(list(rows))})
        is_standing = set_plainly(files_of(disk), serial) is not None
        self.assertEqual(standing(disk), [1, serial] if is_standing else [1])
        if not is_standing:
            self.assertEqual(told(recovered(disk)), OLD)
        return is_standing

    def test_heads_that_stand(self):
        for rows in (["5", "4"], ["5", "1"], ["5", "8"], ["5", "4", "s5.0"], ["5", "4", "s5.0 0"],
                     ["5", "4", "s5.0 0 1 2 3"], ["5", "4", "s5.0 3"], ["5", "4", "s5.0 2", "s5.1"],
                     ["5", "4", "s5.0", "s5.1 0"], ["5", "4", "s1.0", "s4.9"], ["5", "2", "s2.0 1 2"],
                     ["5", "4", "s5.1 0", "s5.1 1"], ["5", "4", "s5.1 0 1", "s5.1"]):
            self.assertTrue(self.stands(*rows), rows)

    def test_the_store_of_a_head(self):
        disk = disk_with({**BASE, "h5": text_plainly(["5", "4", "s5.0 2", "s4.9", "s5.1"])})
        store = recovered(disk)
        self.assertEqual(told(store), (4, [(Segment([Page(*page) for page in PAGES]), [2]), (Segment([Page(9, "q")]), []),
                                           (Segment([Page(*page) for page in OTHERS]), [])]))
        self.assertEqual((store.log(last=99), store.in_hand(), store.sealed()), ([], [], 3))
        self.assertEqual(store.numbers(), [1, 2, 3, 4, 5, 9])
        self.assertEqual(store.page(3), Page(3, "z"))
        self.assertEqual((len(disk), disk.waiting()), (len(BASE) + 1, 0))

    def test_the_recovered_store_is_its_own(self):
        disk = disk_with({**BASE, "h5": text_plainly(["5", "2", "s2.0 1"])})
        store = recovered(disk)
        store.drop(1)
        store.put(Page(2, "new"))
        self.assertEqual(recovered(disk=disk).shelf(), [(Segment([Page(*page) for page in PAGES], size=2), [1])])
        self.assertEqual(store.shelf()[0][1], [0, 1])
        self.assertEqual(store.log(), [("drop", True), ("put", True)])

    def test_wrong_rows(self):
        for rows in ([], ["5"], ["4", "4"], ["6", "4"], ["05", "4"], ["5 ", "4"], [" 5", "4"], ["", "4"], ["5", ""],
                     ["5", "0"], ["5", "9"], ["5", "04"], ["5", "4 "], ["5", " 4"], ["5", "+4"], ["5", "x"],
                     ["4", "5"], ["5", "5", "s5.0"], ["5", "2", "s5.0"], ["5", "4", "s2.0"], ["5", "2", "s2.0", "s4.9"],
                     ["5", "4", ""], ["5", "4", "s5.0", ""], ["5", "4", "", "s5.0"], ["s5.0"]):
            self.assertFalse(self.stands(*rows), rows)

    def test_wrong_names(self):
        text = text_of([(9, "q")])
        for name in ("s6.0", "s05.0", "s0.0", "s00.0", "s5.", "s5", "s5.00", "s5.10", "s.0", "t5.0", "5.0", "S5.0", "s5.a",
                     "s5.0.", "s5..", "ss5.0", "s5 0", "s-5.0", "", ".", "s", "s5.1.0", "x5.0"):
            files = {name.replace(".", "_"): text} if name and set(name) <= set("abcdefghijklmnopqrstuvwxyz0123456789.") \
                else {}
            self.assertFalse(self.stands("5", "4", name, **files), name)
        for name in ("s5.9", "s1.8", "s3.0"):
            self.assertTrue(self.stands("5", "4", name, **{name.replace(".", "_"): text}), name)

    def test_serials_of_many_figures(self):
        text = text_of([(9, "q")])
        for serial in (9, 10, 123456, 999999):
            for own in (1, serial - 1, serial, serial + 1, serial * 10):
                due = own <= serial
                self.assertIs(self.stands(str(serial), "4", f"s{own}.3", serial=serial, **{f"s{own}_3": text}), due)

    def test_wrong_gone_slots(self):
        for gone in (" 4", " 5", " 60", " 99", " 100", " 0 0", " 1 0", " 3 2 1", " 0 1 1", " 00", " 01", " 1 02", " -1",
                     " +1", " a", " 1,2", "  1", " 1  2", " 1 ", " ", "1", " 0 1 2 3 4", " " + "9" * 5000):
            self.assertFalse(self.stands("5", "4", "s5.0" + gone), gone)

    def test_a_standing_number_twice(self):
        self.assertFalse(self.stands("5", "4", "s5.0", "s5.1"))
        self.assertFalse(self.stands("5", "4", "s5.1", "s5.0"))
        self.assertFalse(self.stands("5", "4", "s5.0", "s5.0"))
        self.assertFalse(self.stands("5", "4", "s5.0 0 1 2", "s5.0"))
        self.assertTrue(self.stands("5", "4", "s5.0 0 1 2 3", "s5.0"))

    def test_eight_and_nine_segments(self):
        gone = ["s5.0 0 1 2 3"] * 9
        self.assertTrue(self.stands("5", "4", *gone[:8]))
        self.assertFalse(self.stands("5", "4", *gone))
        self.assertFalse(self.stands("5", "4", *gone, "s5.0"))

    def test_files_that_are_missing_or_torn(self):
        rows = ["5", "4", "s5.0 2", "s5.1"]
        self.assertTrue(self.stands(*rows))
        self.assertFalse(self.stands("5", "4", "s5.0 2", "s5.2"))
        self.assertFalse(self.stands("5", "4", "s3.0"))
        text = text_of(OTHERS)
        for end in range(len(text)):
            self.assertFalse(self.stands(*rows, s5_1=text[:end]))
        for wrong in (text + "\n", text_plainly([]), text_plainly(["4"]), text_plainly(["4", "3:1"]),
                      text_plainly(rows_plainly(text) + ["zz"]), text_of(OTHERS, 5), BASE["h1"], text.upper()):
            self.assertFalse(self.stands(*rows, s5_1=wrong))

    def test_a_torn_head(self):
        text = text_plainly(["5", "4", "s5.0"])
        for wrong in [text[:end] for end in range(len(text))] + [text + "\n", text.replace("4", "3"), text.upper()]:
            disk = disk_with({**BASE, "h5": wrong})
            self.assertEqual(standing(disk), [1])
            self.assertEqual(told(recovered(disk)), OLD)

    def test_a_file_that_is_a_heads_but_no_segments(self):
        self.assertFalse(self.stands("5", "4", "s3.0", s3_0=text_plainly(["5", "4"])))

    def test_changed_rows_and_files(self):
        chance = random.Random(41)
        kinds = {True: 0, False: 0}
        rows = ["5", "4", "s5.0 0 2", "s5.1 1", "s4.9"]
        for at, row in enumerate(rows):
            for place in range(len(row) + 1):
                for sign in ("", *chance.sample("0123456789s. a", 6)):
                    for behind in (place, place + 1):
                        changed = rows[:at] + [row[:place] + sign + row[behind:]] + rows[at + 1:]
                        kinds[self.stands(*changed)] += 1
        for order in itertools.permutations(rows):
            kinds[self.stands(*order)] += 1
        for many in range(len(rows) + 1):
            for some in itertools.combinations(rows, many):
                kinds[self.stands(*some)] += 1
        self.assertGreater(kinds[True], 30)
        self.assertGreater(kinds[False], 150)


class RecoverTests(unittest.TestCase):
    def test_no_file_named_like_a_head(self):
        whole = text_plainly(["1", "4"])
        for files in ({}, {"s1.0": whole}, {"h0": whole, "h01": whole, "h1000000": whole, "hx": whole, "h": whole,
                                           "head": whole, "h1.": whole, "1": whole}):
            disk = disk_with(files)
            with self.assertRaises(NoFile) as caught:
                recovered(disk)
            self.assertEqual(caught.exception.name, "head")
            self.assertEqual((standing(disk), files_of(disk)), ([], files))

    def test_none_that_stands(self):
        for names, due in ((["h1"], "h1"), (["h9", "h10"], "h10"), (["h2", "h100", "h99", "h1000000"], "h100"),
                           (["h999999", "h01"], "h999999")):
            disk = disk_with({name: "torn" for name in names})
            with self.assertRaises(Torn) as caught:
                recovered(disk)
            self.assertEqual(caught.exception.name, due)
            self.assertEqual(standing(disk), [])

    def test_the_next_older_head_that_stands(self):
        files = {f"h{serial}": text_plainly([str(serial), str(size)]) for serial, size in
                 ((2, 1), (10, 2), (9, 3), (100, 4))}
        disk = disk_with(files)
        for due, size in ((100, 4), (10, 2), (9, 3), (2, 1)):
            self.assertEqual(standing(disk)[-1], due)
            self.assertEqual(recovered(disk).size, size)
            disk.write(f"h{due}", "torn")
        with self.assertRaises(Torn) as caught:
            recovered(disk)
        self.assertEqual(caught.exception.name, "h100")

    def test_standing_tells_a_rising_list(self):
        serials = [1, 2, 9, 10, 11, 99, 100, 999999]
        files = {f"h{serial}": text_plainly([str(serial), "4"]) for serial in serials}
        disk = disk_with({**files, "h12": "torn", "h101": "torn"})
        self.assertEqual(standing(disk), serials)
        standing(disk=disk).clear()
        self.assertEqual(standing(disk), serials)

    def test_what_waits_is_read_as_if_it_were_done(self):
        disk = Disk()
        disk.write("h3", text_plainly(["3", "4"]))
        self.assertEqual((standing(disk), recovered(disk).size, disk.waiting()), ([3], 4, 1))
        disk.erase("h3")
        with self.assertRaises(NoFile):
            recovered(disk)

    def test_sets_of_many_stores(self):
        for seed in range(60):
            chance = random.Random(seed)
            store, disk = Store(chance.randrange(1, 9)), Disk()
            for _ in range(chance.randrange(1, 4)):
                for _ in range(chance.randrange(25)):
                    store.put(some_page(chance, chance.randrange(1, 40), "abc"), anew=True)
                    if chance.random() < 0.2 and store.sealed() < 7:
                        store.seal()
                for number in store.numbers():
                    if chance.random() < 0.1:
                        store.drop(number)
                serial = commit(store, disk)
                files = files_of(disk)
                self.assertEqual(serials_plainly(files), [serial])
                size, parts = set_plainly(files, serial)
                self.assertEqual(told(store), (size, [(Segment(pages, size=size), gone) for pages, gone in parts]))
                self.assertEqual(told(recovered(disk)), told(store))
                self.assertEqual(rows_of(files[f"h{serial}"])[:2], [str(serial), str(store.size)])
                for segment, gone in store.shelf():
                    self.assertIn(whole_text(segment_rows(segment)), files.values())
                if chance.random() < 0.5:
                    store = recovered(disk)
                while store.sealed() > 6:
                    store.merge()

    def test_full_stores(self):
        pages = [[(number, "a b " * 59 + "c") for number in range(first, first + 60)] for first in (1, 61)]
        store, disk = store_with(*pages), Disk()
        commit(store, disk)
        self.assertEqual(told(recovered(disk)), told(store))
        # A set may have more pages than may be put.
        many = store_of(4, [(Segment([Page(number) for number in range(first, first + 60)]), [])
                            for first in range(1, 481, 60)])
        commit(many, disk)
        self.assertEqual((len(recovered(disk)), told(recovered(disk))), (480, told(many)))

    def test_two_disks_know_nothing_of_one_another(self):
        one, other = Disk(), Disk()
        commit(store_with([(1, "a")]), one)
        self.assertEqual((other.names(), commit(Store(), other), standing(one)), ([], 1, [1]))


if __name__ == "__main__":
    unittest.main()
