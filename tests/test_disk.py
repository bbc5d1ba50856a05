"""Point 40: the disk."""

import inspect
import itertools
import random
import re
import unittest

from blocksearch.disk import Disk
from blocksearch.errors import NoDeed, NoFile, NoName
from things import NO_QUERIES, NO_TEXTS, NO_WHOLES

NAMES = ["a", "z", "0", "9", ".", "h1", "s1.0", "abcdefghijkl", "0123456789..", "........a..."]
NO_NAMES = NO_TEXTS + NO_WHOLES + NO_QUERIES + [
    "", "abcdefghijklm", "A", "a b", "a-b", "a_b", "a/b", "a\n", "\n", "~", " ", "a:", "h1 ", "a" * 20000]
# Some of these things are names after all.
NO_NAMES = [thing for thing in NO_NAMES if not isinstance(thing, str) or not re.fullmatch(r"[a-z0-9.]{1,12}", thing)]


def told(disk):
    """All that a disk tells."""
    return disk.names(), {name: disk.read(name) for name in disk.names()}, len(disk), disk.waiting()


def disk_of(flushed, *deeds):
    """A disk with such files for good, and such deeds that wait: (name, text), or a name to be erased."""
    disk = Disk()
    for name, text in flushed.items():
        disk.write(name, text)
    disk.flush()
    for deed in deeds:
        disk.erase(deed) if isinstance(deed, str) else disk.write(*deed)
    return disk


class Case(unittest.TestCase):
    def refused(self, disk, kind, field, deed):
        before = told(disk)
        with self.assertRaises(kind) as caught:
            deed()
        if kind is not NoName:
            value = caught.exception.name if kind is NoFile else caught.exception.at
            self.assertEqual(value, field)
            self.assertIs(type(value), type(field))
        self.assertEqual(told(disk), before)

    def crashed(self, flushed, deeds, picks, due):
        """What is there behind a crash: by all that is told, and for good."""
        disk = disk_of(flushed, *deeds)
        self.assertIsNone(disk.crash(picks=picks))
        self.assertEqual(told(disk), (sorted(due), due, len(due), 0))
        disk.crash()
        self.assertEqual(told(disk), (sorted(due), due, len(due), 0))


class FileTests(Case):
    def test_a_new_disk(self):
        disk = Disk()
        self.assertEqual(told(disk), ([], {}, 0, 0))
        self.assertIsNone(disk.flush())
        self.assertIsNone(disk.crash())
        self.assertEqual(told(disk), ([], {}, 0, 0))

    def test_names(self):
        disk = Disk()
        for name in NAMES:
            self.assertIsNone(disk.write(name, "text of " + name))
            self.assertEqual(disk.read(name), "text of " + name)
        self.assertEqual(disk.names(), sorted(NAMES))
        self.assertEqual(len(disk), len(NAMES))
        for thing in NO_NAMES:
            self.refused(disk, NoName, None, lambda: disk.write(thing, "text"))

    def test_read_before_and_after_a_flush(self):
        disk = Disk()
        disk.write("a", "one")
        self.assertEqual(told(disk), (["a"], {"a": "one"}, 1, 1))
        disk.flush()
        self.assertEqual(told(disk), (["a"], {"a": "one"}, 1, 0))
        disk.write("a", "two")
        self.assertEqual(told(disk), (["a"], {"a": "two"}, 1, 1))
        disk.write("a", "")
        self.assertEqual(told(disk), (["a"], {"a": ""}, 1, 2))
        disk.erase("a")
        self.assertEqual(told(disk), ([], {}, 0, 3))
        disk.write("a", "three")
        self.assertEqual(told(disk), (["a"], {"a": "three"}, 1, 4))
        disk.flush()
        disk.crash()
        self.assertEqual(told(disk), (["a"], {"a": "three"}, 1, 0))

    def test_erase(self):
        disk = disk_of({"a": "1", "b": "2"})
        self.assertIsNone(disk.erase("a"))
        self.assertEqual(told(disk), (["b"], {"b": "2"}, 1, 1))
        # One that waits to be erased is no file any more.
        self.refused(disk, NoFile, "a", lambda: disk.erase("a"))
        self.refused(disk, NoFile, "a", lambda: disk.read("a"))
        disk.flush()
        self.refused(disk, NoFile, "a", lambda: disk.erase("a"))
        disk.write("c", "3")
        disk.erase("c")
        self.refused(disk, NoFile, "c", lambda: disk.erase("c"))
        disk.flush()
        self.assertEqual(told(disk), (["b"], {"b": "2"}, 1, 0))

    def test_any_thing_that_names_none(self):
        disk = disk_of({"a": "1"}, ("b", "2"))
        for thing in NO_NAMES + ["c", "abcdefghijkl", [["a"], ("b", [])]]:
            self.refused(disk, NoFile, thing, lambda: disk.read(thing))
            self.refused(disk, NoFile, thing, lambda: disk.erase(thing))

    def test_the_field_is_not_changed_behind_the_call(self):
        thing = ["a", ["b"]]
        for ask in (Disk().read, Disk().erase):
            with self.assertRaises(NoFile) as caught:
                ask(thing)
            thing[1].append(None)
            self.assertNotEqual(caught.exception.name, thing)

    def test_names_are_the_askers_own(self):
        disk = disk_of({"b": "", "a": ""})
        disk.names().clear()
        self.assertEqual(disk.names(), ["a", "b"])

    def test_arguments(self):
        disk = Disk()
        disk.write(name="a", text="b")
        self.assertEqual(disk.read(name="a"), "b")
        disk.erase(name="a")
        self.assertEqual(inspect.signature(Disk.crash).parameters["picks"].kind, inspect.Parameter.KEYWORD_ONLY)


class CrashTests(Case):
    def test_no_picks(self):
        for picks in ((), []):
            self.crashed({"a": "old"}, [("a", "new"), ("b", "new"), "a"], picks, {"a": "old"})
        disk = disk_of({"a": "old"}, ("a", "new"))
        disk.crash()
        self.assertEqual(told(disk), (["a"], {"a": "old"}, 1, 0))

    def test_each_pick_of_a_text(self):
        for text in ("", "x", "some text\nof rows\n"):
            for pick in range(1, len(text) + 2):
                self.crashed({}, [("a", text)], [pick], {"a": text[:pick - 1]})
                self.crashed({"a": "a much longer text that was there", "b": ""}, [("a", text)], (pick,),
                             {"a": text[:pick - 1], "b": ""})
            self.crashed({"a": "old"}, [("a", text)], [0], {"a": "old"})
            self.crashed({}, [("a", text)], [0], {})

    def test_each_pick_of_an_erase(self):
        self.crashed({"a": "1", "b": "2"}, ["a"], [0], {"a": "1", "b": "2"})
        self.crashed({"a": "1", "b": "2"}, ["a"], [1], {"b": "2"})

    def test_an_erase_of_a_file_that_isnt_there_then(self):
        self.crashed({"b": "2"}, [("a", "1"), "a"], [0, 1], {"b": "2"})
        self.crashed({"b": "2"}, [("a", "1"), "a"], [2, 1], {"b": "2"})
        self.crashed({"b": "2"}, [("a", "1"), "a"], [2, 0], {"a": "1", "b": "2"})
        self.crashed({"a": "0"}, ["a", ("a", "1"), "a"], [1, 0, 1], {})
        self.crashed({"a": "0"}, ["a", ("a", "1"), "a"], [0, 0, 1], {})

    def test_deeds_in_turn(self):
        self.crashed({}, [("a", "one"), ("a", "three")], [4, 3], {"a": "th"})
        self.crashed({}, [("a", "one"), ("a", "three")], [4, 0], {"a": "one"})
        self.crashed({}, [("a", "one"), ("a", "three")], [2], {"a": "o"})
        self.crashed({"a": "old"}, ["a", ("a", "three")], [1, 1], {"a": ""})
        self.crashed({"a": "old"}, ["a", ("a", "three")], [1], {})

    def test_picks_that_are_none(self):
        deeds = [("b", "text"), "a", ("c", "")]
        disk = disk_of({"a": "old"}, *deeds)
        most = [5, 1, 1]
        for at in range(3):
            for thing in NO_WHOLES + [-1, most[at] + 1, most[at] + 2, 10 ** 60, -10 ** 60]:
                for kind in (list, tuple):
                    picks = list(most)
                    picks[at] = thing
                    self.refused(disk, NoDeed, at, lambda: disk.crash(picks=kind(picks)))
                    self.refused(disk, NoDeed, at, lambda: disk.crash(picks=kind(picks[:at + 1])))
                    # The first wrong place tells.
                    self.refused(disk, NoDeed, at, lambda: disk.crash(picks=kind(picks + [None, 7])))
        disk.crash(picks=most)
        self.assertEqual(told(disk), (["b", "c"], {"b": "text", "c": ""}, 2, 0))

    def test_too_many_picks(self):
        disk = disk_of({"a": "old"}, ("b", "text"))
        for picks in ([0, 0], [5, 0], (1, 1), [0, None], [0, 0, 0]):
            self.refused(disk, NoDeed, 1, lambda: disk.crash(picks=picks))
        empty = Disk()
        for picks in ([0], (0,), [None], [True]):
            self.refused(empty, NoDeed, 0, lambda: empty.crash(picks=picks))

    def test_what_is_no_list_and_no_tuple(self):
        disk = disk_of({"a": "old"}, ("b", "text"))
        for thing in [0, 1, -1, True, False, None, "", "0", "1", 10 ** 60, {}, {0: 1}]:
            self.refused(disk, NoDeed, None, lambda: disk.crash(picks=thing))

    def test_picks_are_not_changed_or_kept(self):
        disk = disk_of({}, ("a", "text"))
        picks = [3]
        disk.crash(picks=picks)
        self.assertEqual(picks, [3])
        picks[0] = 0
        self.assertEqual(disk.read("a"), "te")

    def test_behind_a_crash_nothing_waits(self):
        disk = disk_of({"a": "old"}, ("a", "new"), "a")
        disk.crash(picks=[0])
        disk.flush()
        self.assertEqual(told(disk), (["a"], {"a": "old"}, 1, 0))
        disk.write("a", "newer")
        self.assertEqual(disk.waiting(), 1)
        disk.flush()
        self.assertEqual(disk.read("a"), "newer")


class TwinTests(Case):
    def test_a_twin_is_as_the_disk_is(self):
        files, deeds = {"a": "old", "b": "2"}, [("a", "new"), "b", ("c", "3")]
        disk = disk_of(files, *deeds)
        for picks in itertools.product(range(5), range(2), range(3)):
            one, other = disk.twin(), disk_of(files, *deeds)
            self.assertEqual(told(one), told(disk))
            one.crash(picks=picks)
            other.crash(picks=list(picks))
            self.assertEqual(told(one), told(other))
        self.assertEqual(told(disk), (["a", "c"], {"a": "new", "c": "3"}, 2, 3))
        self.assertIsInstance(disk.twin(), Disk)
        self.assertIsNot(disk.twin(), disk)

    def test_neither_knows_of_the_others_deeds(self):
        for deed in (lambda disk: disk.write("z", "z"), lambda disk: disk.erase("a"), lambda disk: disk.flush(),
                     lambda disk: disk.crash(), lambda disk: disk.crash(picks=[1, 1])):
            disk = disk_of({"a": "old", "b": "2"}, ("a", "new"), "b")
            twin = disk.twin()
            before = told(disk)
            deed(twin)
            self.assertEqual(told(disk), before)
            disk.crash(picks=[2, 0])
            self.assertEqual(disk.read("a"), "n")
            twin = disk.twin()
            before = told(twin)
            disk.write("q", "q")
            disk.flush()
            disk.erase("a")
            self.assertEqual(told(twin), before)

    def test_two_disks_know_nothing_of_one_another(self):
        one, other = Disk(), Disk()
        one.write("a", "1")
        one.flush()
        one.write("b", "2")
        self.assertEqual(told(other), ([], {}, 0, 0))


class HistoryTests(Case):
    def test_drawn_histories(self):
        for seed in range(150):
            chance = random.Random(seed)
            disk, files, deeds = Disk(), {}, []
            for _ in range(40):
                word = chance.choice(["write"] * 4 + ["erase"] * 3 + ["flush", "crash"])
                view = self.after(files, deeds, [None] * len(deeds))
                name = chance.choice("abcd")
                if word == "write":
                    text = "x" * chance.randrange(4)
                    disk.write(name, text)
                    deeds.append((name, text))
                elif word == "erase" and name in view:
                    disk.erase(name)
                    deeds.append((name, None))
                elif word == "erase":
                    self.refused(disk, NoFile, name, lambda: disk.erase(name))
                elif word == "flush":
                    disk.flush()
                    files, deeds = view, []
                else:
                    picks = [chance.randrange(2 if text is None else len(text) + 2) for name, text in deeds]
                    picks = picks[:chance.randrange(len(picks) + 1)]
                    disk.crash(picks=picks)
                    files, deeds = self.after(files, deeds, picks + [0] * len(deeds)), []
                due = self.after(files, deeds, [None] * len(deeds))
                self.assertEqual(told(disk), (sorted(due), due, len(due), len(deeds)))

    def after(self, files, deeds, picks):
        """The files when deeds were done as far as their picks tell; None does one wholly."""
        files = dict(files)
        for (name, text), pick in zip(deeds, picks):
            if text is not None and pick != 0:
                files[name] = text if pick is None else text[:pick - 1]
            elif text is None and pick != 0:
                files = {one: files[one] for one in files if one != name}
        return files


if __name__ == "__main__":
    unittest.main()
