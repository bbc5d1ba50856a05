"""Points 10, 11 and 12: walkers, what opens a block, slots of rows."""

import itertools
import random
import unittest

from blocksearch.errors import NoNumber, NoPlace, NoRow
from blocksearch.rows import Row
from blocksearch.walkers import Walker, common, either, without
from things import NO_TEXTS, NO_WHOLES

SLOTS = [2, 3, 7, 9, 12, 13, 20]


def row_of(slots, size=3, word="a"):
    """A row with places that differ from slot to slot."""
    return Row(word, [(slot, (slot % 5, 5 + slot % 3)) for slot in slots], [60] * 60, size=size)


class PlainWalker:
    """The plain reading of points 10 and 11: all entries are known, what would be opened is written down."""

    def __init__(self, row):
        self.entries = row.entries()
        self.cuts = [list(range(at, min(at + row.size, len(self.entries))))
                     for at in range(0, len(self.entries), row.size)]
        self.at = 0
        self.blocks = row.blocks()
        self.read = set()

    def cut_at(self, at):
        return next((which for which, cut in enumerate(self.cuts) if at in cut), None)

    def slot(self):
        return self.entries[self.at][0] if self.at < len(self.entries) else None

    def step(self):
        if self.at < len(self.entries):
            if self.cut_at(self.at) == self.cut_at(self.at + 1):
                self.read.add(self.cut_at(self.at))
            self.at += 1
        return self.slot()

    def seek(self, slot):
        here = self.slot()
        if here is not None and slot > here:
            for which, cut in enumerate(self.cuts):
                if self.entries[cut[0]][0] < slot <= self.entries[cut[-1]][0]:
                    self.read.add(which)
            while self.at < len(self.entries) and self.slot() < slot:
                self.at += 1
        return self.slot()

    def places(self):
        if self.at == len(self.entries):
            return NoPlace
        self.read.add(self.cut_at(self.at))
        return self.entries[self.at][1]

    def block(self):
        which = self.cut_at(self.at)
        return None if which is None else self.blocks[which]

    def block_at(self, slot):
        which = self.cut_at(self.at)
        if which is None:
            return None
        return next((block for block in self.blocks[which:] if block.last >= slot), None)

    def glance(self, slots):
        was, told = self.at, []
        for at, slot in enumerate(slots):
            if not isinstance(slot, int) or isinstance(slot, bool):
                self.at = was
                return NoRow, at
            told.append(self.seek(slot))
        self.at = was
        return told

    def opened(self):
        return len(self.read)


def answer(walker, deed, *given):
    try:
        return getattr(walker, deed)(*given)
    except NoPlace:
        return NoPlace
    except NoRow as refused:
        return NoRow, refused.at


class StandingTests(unittest.TestCase):
    def test_steps(self):
        for size in range(1, 9):
            walker = Walker(row_of(SLOTS, size))
            for slot in SLOTS:
                self.assertEqual(walker.slot(), slot)
                self.assertEqual(walker.places(), (slot % 5, 5 + slot % 3))
                self.assertIsInstance(walker.places(), tuple)
                walker.step()
            for _ in range(3):
                self.assertIsNone(walker.slot())
                self.assertIsNone(walker.step())

    def test_behind_the_end(self):
        row = row_of(SLOTS)
        walker = Walker(row)
        self.assertIsNone(walker.seek(21))
        for _ in range(2):
            with self.assertRaises(NoPlace):
                walker.places()
            self.assertIsNone(walker.block())
            self.assertIsNone(walker.slot())
            self.assertIsNone(walker.step())
            for slot in (-5, 0, 2, 3, 20, 21, 10 ** 60):
                self.assertIsNone(walker.seek(slot))
                self.assertIsNone(walker.block_at(slot))
            self.assertEqual(walker.glance([3, 20, 2]), [None, None, None])
            self.assertEqual(walker.opened(), 0)

    def test_a_row_without_entries(self):
        walker = Walker(row_of([]))
        self.assertIsNone(walker.slot())
        self.assertIsNone(walker.block())
        self.assertIsNone(walker.block_at(0))
        self.assertIsNone(walker.step())
        self.assertIsNone(walker.seek(0))
        self.assertEqual(walker.glance([0, 1]), [None, None])
        with self.assertRaises(NoPlace):
            walker.places()
        self.assertEqual(walker.opened(), 0)

    def test_seeks_never_go_back(self):
        walker = Walker(row_of(SLOTS))
        for sought, told in ((-10 ** 60, 2), (0, 2), (2, 2), (3, 3), (2, 3), (4, 7), (1, 7), (10, 12), (9, 12),
                             (12, 12), (20, 20), (2, 20), (21, None), (2, None)):
            self.assertEqual(walker.seek(sought), told)
            self.assertEqual(walker.slot(), told)

    def test_blocks(self):
        row = row_of(SLOTS)
        blocks = row.blocks()
        walker = Walker(row)
        for slot in SLOTS:
            self.assertEqual(walker.seek(slot), slot)
            which = SLOTS.index(slot) // 3
            self.assertEqual(walker.block(), blocks[which])
        walker = Walker(row)
        for slot, which in ((-3, 0), (0, 0), (2, 0), (5, 0), (7, 0), (8, 1), (9, 1), (13, 1), (14, 2), (20, 2)):
            self.assertEqual(walker.block_at(slot), blocks[which])
        for slot in (21, 22, 10 ** 60):
            self.assertIsNone(walker.block_at(slot))
        self.assertEqual((walker.slot(), walker.opened()), (2, 0))
        walker.seek(9)
        for slot in (-3, 0, 2, 7, 8, 13):
            self.assertEqual(walker.block_at(slot), blocks[1])
        self.assertEqual((walker.slot(), walker.opened()), (9, 0))

    def test_glances(self):
        walker = Walker(row_of(SLOTS))
        self.assertEqual(walker.glance([]), [])
        self.assertEqual(walker.glance([9]), [9])
        self.assertEqual(walker.glance([4, 1, 12, 3, 21, 2]), [7, 7, 12, 12, None, None])
        self.assertEqual(walker.slot(), 2)
        walker.seek(8)
        self.assertEqual(walker.glance([2, 10]), [9, 12])
        self.assertEqual(walker.slot(), 9)

    def test_glanced_lists_are_not_changed_and_are_new(self):
        walker = Walker(row_of(SLOTS))
        slots = [4, 1, 12]
        told = walker.glance(slots)
        told.clear()
        self.assertEqual(slots, [4, 1, 12])
        self.assertEqual(walker.glance(slots), [7, 7, 12])

    def test_what_is_no_whole_number(self):
        for thing in NO_WHOLES:
            for start in (0, 9, 21):
                walker = Walker(row_of(SLOTS))
                walker.seek(start)
                stood = (walker.slot(), walker.opened())
                with self.assertRaises(NoNumber):
                    walker.seek(thing)
                with self.assertRaises(NoNumber):
                    walker.block_at(thing)
                self.assertEqual((walker.slot(), walker.opened()), stood)

    def test_glances_at_what_is_no_list(self):
        for thing in [one for one in NO_TEXTS if not isinstance(one, list)] + ["", "a", (3, 4)]:
            walker = Walker(row_of(SLOTS))
            with self.assertRaises(NoRow) as caught:
                walker.glance(thing)
            self.assertIsNone(caught.exception.at)
            self.assertEqual((walker.slot(), walker.opened()), (2, 0))

    def test_a_wrong_thing_in_a_glance_at_each_place(self):
        slots = [3, 12, 20, 21]
        opened = [0, 1, 2, 2, 2]
        for thing in NO_WHOLES:
            for at in range(5):
                walker = Walker(row_of(SLOTS))
                with self.assertRaises(NoRow) as caught:
                    walker.glance(slots[:at] + [thing] + slots[at:] + [thing])
                self.assertEqual(caught.exception.at, at)
                self.assertEqual((walker.slot(), walker.opened()), (2, opened[at]))
                self.assertEqual(walker.step(), 3)

    def test_arguments_by_their_names(self):
        row = row_of(SLOTS)
        walker = Walker(row=row)
        self.assertEqual(walker.seek(slot=3), 3)
        self.assertEqual(walker.block_at(slot=9), row.blocks()[1])
        self.assertEqual(walker.glance(slots=[9]), [9])
        self.assertEqual(common(rows=[row]), SLOTS)
        self.assertEqual(either(rows=[row]), SLOTS)
        self.assertEqual(without(other=row, row=row), [])

    def test_methods_stand_in_the_class_itself(self):
        for name in ("slot", "step", "seek", "places", "block", "block_at", "glance", "opened"):
            self.assertIn(name, vars(Walker))


class OpenedTests(unittest.TestCase):
    def test_a_new_walker_has_opened_none(self):
        walker = Walker(row_of(SLOTS))
        walker.slot(), walker.block(), walker.block_at(12)
        self.assertEqual(walker.opened(), 0)

    def test_steps(self):
        walker = Walker(row_of(SLOTS))
        counts = []
        for _ in range(9):
            walker.step()
            counts.append(walker.opened())
        self.assertEqual(counts, [1, 1, 1, 2, 2, 2, 2, 2, 2])

    def test_steps_through_blocks_of_one_entry(self):
        walker = Walker(row_of(SLOTS, 1))
        for _ in range(9):
            walker.step()
        self.assertEqual(walker.opened(), 0)

    def test_places(self):
        walker = Walker(row_of(SLOTS))
        walker.places()
        self.assertEqual(walker.opened(), 1)
        walker.places()
        walker.step()
        self.assertEqual(walker.opened(), 1)
        walker.seek(20)
        self.assertEqual(walker.opened(), 1)
        walker.places()
        self.assertEqual(walker.opened(), 2)

    def test_seeks(self):
        for sought, opened in ((-1, 0), (0, 0), (2, 0), (3, 1), (5, 1), (7, 1), (8, 0), (9, 0), (10, 1), (12, 1),
                               (13, 1), (14, 0), (19, 0), (20, 0), (21, 0)):
            walker = Walker(row_of(SLOTS))
            walker.seek(sought)
            self.assertEqual(walker.opened(), opened, sought)
            walker = Walker(row_of(SLOTS))
            walker.glance([sought])
            self.assertEqual(walker.opened(), opened, sought)

    def test_a_slot_that_is_not_above_where_the_walker_stands(self):
        walker = Walker(row_of(SLOTS))
        walker.seek(9)
        for slot in (3, 7, 9):
            walker.seek(slot)
        self.assertEqual(walker.opened(), 0)
        walker.glance([13])
        self.assertEqual(walker.opened(), 1)

    def test_a_block_is_opened_once(self):
        walker = Walker(row_of(SLOTS))
        walker.glance([3, 7, 3, 12, 13])
        self.assertEqual(walker.opened(), 2)
        walker.seek(3), walker.places(), walker.step(), walker.step(), walker.step()
        self.assertEqual((walker.slot(), walker.opened()), (12, 2))

    def test_two_walkers_over_one_row(self):
        row = row_of(SLOTS)
        one, other = Walker(row), Walker(row)
        one.seek(12)
        self.assertEqual((one.slot(), one.opened()), (12, 1))
        self.assertEqual((other.slot(), other.opened()), (2, 0))
        other.step()
        self.assertEqual((one.slot(), one.opened()), (12, 1))
        self.assertEqual((other.slot(), other.opened()), (3, 1))
        self.assertEqual(row, row_of(SLOTS))


class PlainReadingTests(unittest.TestCase):
    def check(self, row, deeds):
        walker, plain = Walker(row), PlainWalker(row)
        for deed in deeds:
            self.assertEqual(answer(walker, *deed), answer(plain, *deed), deeds)
            self.assertEqual(walker.slot(), plain.slot(), deeds)
            self.assertEqual(walker.opened(), plain.opened(), deeds)

    def test_all_short_histories(self):
        deeds = [("step",), ("places",), ("block",)] + [("seek", slot) for slot in range(1, 8)]
        for size in (1, 2, 3):
            row = row_of([1, 2, 4, 5, 6], size)
            for history in itertools.product(deeds, repeat=3):
                self.check(row, history)

    def test_long_histories(self):
        chance = random.Random(11)
        for _ in range(600):
            slots = sorted(chance.sample(range(40), chance.randrange(20)))
            row = row_of(slots, chance.randrange(1, 9))
            deeds = []
            for _ in range(chance.randrange(25)):
                deeds.append(chance.choice([
                    ("step",), ("places",), ("block",), ("slot",),
                    ("seek", chance.randrange(-2, 44)),
                    ("block_at", chance.randrange(-2, 44)),
                    ("glance", [chance.randrange(-2, 44) for _ in range(chance.randrange(4))]),
                    ("glance", [chance.choice([chance.randrange(44), True, None, "a"]) for _ in range(4)]),
                ]))
            self.check(row, deeds)


class SlotsTests(unittest.TestCase):
    def test_no_rows(self):
        self.assertEqual(common([]), [])
        self.assertEqual(either([]), [])

    def test_one_row_and_like_rows(self):
        for rows in ([row_of(SLOTS)], [row_of(SLOTS)] * 2, [row_of(SLOTS), row_of(SLOTS, 1, "b")]):
            self.assertEqual(common(rows), SLOTS)
            self.assertEqual(either(rows), SLOTS)
        self.assertEqual(without(row_of(SLOTS), row_of(SLOTS, 8)), [])
        row = row_of(SLOTS)
        self.assertEqual(without(row, row), [])

    def test_rows_without_entries(self):
        row, empty = row_of(SLOTS), row_of([])
        for rows in ([row, empty], [empty, row], [empty, row, row], [row, row, empty]):
            self.assertEqual(common(rows), [])
            self.assertEqual(either(rows), SLOTS)
        self.assertEqual((common([empty]), either([empty])), ([], []))
        self.assertEqual((without(row, empty), without(empty, row), without(empty, empty)), (SLOTS, [], []))

    def test_ordinary_rows(self):
        one, two, three = row_of([1, 3, 5, 7]), row_of([0, 3, 4, 7, 9]), row_of([7, 8])
        self.assertEqual(common([one, two]), [3, 7])
        self.assertEqual(common([one, two, three]), [7])
        self.assertEqual(either([three, one, two]), [0, 1, 3, 4, 5, 7, 8, 9])
        self.assertEqual(without(one, two), [1, 5])
        self.assertEqual(without(two, one), [0, 4, 9])

    def test_rows_by_chance(self):
        chance = random.Random(12)
        for _ in range(500):
            slots = [set(chance.sample(range(30), chance.randrange(31))) for _ in range(chance.randrange(1, 5))]
            rows = [row_of(sorted(one), chance.randrange(1, 9)) for one in slots]
            self.assertEqual(common(rows), sorted(set.intersection(*slots)))
            self.assertEqual(either(rows), sorted(set.union(*slots)))
            self.assertEqual(without(rows[0], rows[-1]), sorted(slots[0] - slots[-1]))

    def test_what_is_handed_in_is_not_changed_and_lists_are_new(self):
        rows = [row_of(SLOTS), row_of([2, 50])]
        for call in (common, either):
            told = call(rows)
            before = list(told)
            told.append(99)
            self.assertEqual(call(rows), before)
        self.assertEqual(rows, [row_of(SLOTS), row_of([2, 50])])


if __name__ == "__main__":
    unittest.main()
