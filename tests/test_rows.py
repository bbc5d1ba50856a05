"""Point 9: rows and blocks."""

import inspect
import itertools
import random
import unittest

from blocksearch.codes import decode_entries
from blocksearch.errors import NoEntries, NoLengths, NoSize, NoWord
from blocksearch.rows import SIZE, Row
from things import NO_TEXTS, NO_WHOLES, NO_WORDS

HEAD = ("first", "last", "many", "most", "least", "coded")
ENTRIES = [(0, (1,)), (2, (0, 3)), (3, (2,)), (5, (0, 1, 4)), (6, (5,)), (9, (0,))]
LENGTHS = [2, 0, 9, 3, 120, 7, 6, 1, 1, 1]


def heads(row):
    return [tuple(getattr(block, name) for name in HEAD) for block in row.blocks()]


def many_rows():
    chance = random.Random(9)
    for _ in range(200):
        lengths = [chance.randrange(0, 12) for _ in range(chance.randrange(0, 20))]
        entries = []
        for slot, length in enumerate(lengths):
            if length and chance.randrange(3):
                places = chance.sample(range(length), chance.randrange(1, length + 1))
                entries.append((slot, tuple(sorted(places))))
        yield entries, lengths, chance.randrange(1, 9)


class RefusalTests(unittest.TestCase):
    def wrong_entries(self, at, *given, **named):
        with self.assertRaises(NoEntries) as caught:
            Row(*given, **named)
        self.assertEqual(caught.exception.at, at)

    def test_wrong_words(self):
        for word in NO_WORDS:
            with self.assertRaises(NoWord):
                Row(word, ENTRIES, LENGTHS)

    def test_wrong_entries(self):
        for thing in [one for one in NO_TEXTS if not isinstance(one, list)] + ["", "a", ((0, (1,)),)]:
            self.wrong_entries(None, "a", thing, LENGTHS)
        for wrong in (None, 0, True, "a", [2, (0,)], (2, [0]), (2, ()), (2,), (2, (0,), 1), (True, (0,)), (-1, (0,)),
                      (0, (0,)), (2, (1, 1)), (2, (True,))):
            self.wrong_entries(1, "a", [(0, (0,)), wrong], LENGTHS)
            self.wrong_entries(1, "a", [(0, (0,)), wrong, (9, (0,))], LENGTHS)

    def test_wrong_lengths(self):
        for thing in [one for one in NO_TEXTS if not isinstance(one, list)] + ["", "a", tuple(LENGTHS)]:
            with self.assertRaises(NoLengths):
                Row("a", [], thing)
        for wrong in NO_WHOLES + [-1, 121, 122, 10 ** 60]:
            for at in range(3):
                lengths = [9, 9]
                lengths.insert(at, wrong)
                with self.assertRaises(NoLengths):
                    Row("a", [], lengths)

    def test_60_and_61_lengths(self):
        row = Row("a", [(59, (0,))], [1] * 60)
        self.assertEqual(row.entries(), [(59, (0,))])
        for many in (61, 62, 1000):
            with self.assertRaises(NoLengths):
                Row("a", [(59, (0,))], [1] * many)

    def test_lengths_0_120_121(self):
        self.assertEqual(heads(Row("a", [(1, (119,))], [0, 120]))[0][:5], (1, 1, 1, 1, 120))
        self.assertEqual(len(Row("a", [], [0, 120])), 0)
        with self.assertRaises(NoLengths):
            Row("a", [(1, (119,))], [0, 121])

    def test_wrong_sizes(self):
        for size in NO_WHOLES + [0, 9, -1, 10, 10 ** 60]:
            with self.assertRaises(NoSize):
                Row("a", ENTRIES, LENGTHS, size=size)
        for size in range(1, 9):
            self.assertEqual(Row("a", ENTRIES, LENGTHS, size=size).size, size)

    def test_size_goes_by_its_name_alone(self):
        with self.assertRaises(TypeError):
            Row("a", ENTRIES, LENGTHS, 4)
        self.assertEqual(inspect.signature(Row).parameters["size"].kind, inspect.Parameter.KEYWORD_ONLY)

    def test_a_slot_without_a_length(self):
        self.wrong_entries(0, "a", [(0, (0,))], [])
        self.wrong_entries(1, "a", [(0, (0,)), (1, (0,))], [1])
        self.wrong_entries(1, "a", [(0, (0,)), (5, (0,)), (6, (9,))], [1, 1])
        self.wrong_entries(0, "a", [(60, (0,))], [1] * 60)

    def test_a_place_that_is_not_less_than_the_length(self):
        self.assertEqual(len(Row("a", [(0, (4,)), (1, (0, 4))], [5, 5])), 2)
        self.wrong_entries(0, "a", [(0, (5,)), (1, (0, 5))], [5, 5])
        self.wrong_entries(1, "a", [(0, (4,)), (1, (0, 5))], [5, 5])
        self.wrong_entries(1, "a", [(0, (4,)), (1, (0, 4))], [5, 0])
        self.wrong_entries(2, "a", [(0, (4,)), (1, (0,)), (2, (0, 3, 900))], [5, 5, 5])

    def test_several_things_wrong_at_once(self):
        wrong = {"word": ("A", NoWord), "entries": ([(0, ())], NoEntries), "lengths": ([121], NoLengths),
                 "size": (9, NoSize)}
        right = {"word": "a", "entries": [(7, (0,))], "lengths": [1], "size": 4}
        for many in range(5):
            for names in itertools.combinations(wrong, many):
                given = {name: wrong[name][0] if name in names else right[name] for name in right}
                # The slot 7 has no length: what is refused of several together comes last.
                error = wrong[names[0]][1] if names else NoEntries
                with self.assertRaises(error):
                    Row(**given)
                with self.assertRaises(error):
                    Row(**dict(reversed(given.items())))


class BlockTests(unittest.TestCase):
    def test_the_size_is_4_if_none_is_handed_in(self):
        self.assertEqual(SIZE, 4)
        row = Row("a", ENTRIES, LENGTHS)
        self.assertEqual(row.size, 4)
        self.assertEqual(row, Row("a", ENTRIES, LENGTHS, size=4))

    def test_heads(self):
        self.assertEqual(heads(Row("a", ENTRIES, LENGTHS)), [
            (0, 5, 4, 3, 2, "eabab" + "ab" + "bac" + "ac" + "caac"),
            (6, 9, 2, 1, 1, "cgc" + "af" + "aa"),
        ])

    def test_least_and_most_may_come_of_unlike_entries(self):
        row = Row("a", [(0, (0, 1, 2)), (1, (0,))], [50, 7])
        self.assertEqual(heads(row)[0][:5], (0, 1, 2, 3, 7))

    def test_lengths_of_other_slots_do_not_tell(self):
        row = Row("a", [(1, (0,))], [1, 9, 0])
        self.assertEqual(row.blocks()[0].least, 9)

    def test_cuts_of_all_sizes(self):
        for entries, lengths, size in many_rows():
            row = Row("ab", entries, lengths, size=size)
            cuts = [entries[at:at + size] for at in range(0, len(entries), size)]
            self.assertEqual([decode_entries(block.coded) for block in row.blocks()], cuts)
            for block, cut in zip(row.blocks(), cuts):
                self.assertEqual((block.first, block.last), (cut[0][0], cut[-1][0]))
                self.assertEqual((block.many, len(block)), (len(cut), len(cut)))
                self.assertEqual(block.most, max(len(places) for slot, places in cut))
                self.assertEqual(block.least, min(lengths[slot] for slot, places in cut))
            self.assertEqual(row.entries(), entries)
            self.assertEqual(len(row), len(entries))
            self.assertEqual((row.word, row.size), ("ab", size))

    def test_sizes_1_and_8(self):
        entries = [(slot, (0,)) for slot in range(17)]
        self.assertEqual([len(block) for block in Row("a", entries, [1] * 17, size=1).blocks()], [1] * 17)
        self.assertEqual([len(block) for block in Row("a", entries, [1] * 17, size=8).blocks()], [8, 8, 1])

    def test_a_row_without_entries(self):
        for lengths in ([], [5], [0] * 60):
            row = Row("a", [], lengths)
            self.assertEqual((row.blocks(), row.entries(), len(row)), ([], [], 0))

    def test_arguments_by_their_names(self):
        self.assertEqual(Row(lengths=LENGTHS, entries=ENTRIES, word="a", size=2), Row("a", ENTRIES, LENGTHS, size=2))

    def test_values_are_set_on_the_objects(self):
        row = Row("a", ENTRIES, LENGTHS)
        self.assertLessEqual({"word", "size"}, set(vars(row)))
        self.assertLessEqual(set(HEAD), set(vars(row.blocks()[0])))
        for name in ("blocks", "entries", "__len__", "__eq__"):
            self.assertIn(name, vars(Row))


class OwnTests(unittest.TestCase):
    def test_what_is_handed_in_is_not_changed(self):
        entries, lengths = list(ENTRIES), list(LENGTHS)
        Row("a", entries, lengths)
        self.assertEqual((entries, lengths), (ENTRIES, LENGTHS))

    def test_what_is_done_to_it_later_changes_nothing(self):
        entries, lengths = list(ENTRIES), list(LENGTHS)
        row = Row("a", entries, lengths, size=2)
        entries.clear()
        lengths[:] = [0, 0]
        self.assertEqual(row, Row("a", ENTRIES, LENGTHS, size=2))
        self.assertEqual(row.entries(), ENTRIES)
        self.assertEqual(len(row), 6)

    def test_told_lists_are_the_askers_own(self):
        row = Row("a", ENTRIES, LENGTHS, size=2)
        row.blocks().clear()
        row.blocks().append(None)
        entries = row.entries()
        entries[0] = None
        entries.append(7)
        self.assertEqual(row, Row("a", ENTRIES, LENGTHS, size=2))
        self.assertEqual(row.entries(), ENTRIES)
        self.assertEqual(len(row.blocks()), 3)


class EqualTests(unittest.TestCase):
    def unlike(self, one, other):
        self.assertIs(one == other, False)
        self.assertIs(other == one, False)
        self.assertIs(one != other, True)

    def alike(self, one, other):
        self.assertIs(one == other, True)
        self.assertIs(other == one, True)
        self.assertIs(one != other, False)

    def test_rows(self):
        row = Row("a", ENTRIES, LENGTHS, size=2)
        self.alike(row, Row("a", list(ENTRIES), list(LENGTHS), size=2))
        self.unlike(row, Row("b", ENTRIES, LENGTHS, size=2))
        self.unlike(row, Row("a", ENTRIES, LENGTHS, size=3))
        self.unlike(row, Row("a", ENTRIES[:-1], LENGTHS, size=2))
        self.unlike(row, Row("a", ENTRIES[:-1] + [(8, (0,))], LENGTHS, size=2))
        self.unlike(row, Row("a", [(0, (0,))] + ENTRIES[1:], LENGTHS, size=2))
        self.unlike(row, Row("a", [(0, (0, 1))] + ENTRIES[1:], LENGTHS, size=2))

    def test_rows_with_other_sizes_and_like_blocks(self):
        self.unlike(Row("a", [], [], size=1), Row("a", [], [], size=2))
        self.unlike(Row("a", [(0, (0,))], [1], size=1), Row("a", [(0, (0,))], [1], size=2))
        self.unlike(Row("a", [], []), Row("b", [], []))
        self.alike(Row("a", [], []), Row("a", [], [3, 4]))

    def test_a_length_that_tells_in_a_head(self):
        row = Row("a", [(0, (0,)), (1, (0,))], [5, 7, 9])
        self.unlike(row, Row("a", [(0, (0,)), (1, (0,))], [4, 7, 9]))
        self.unlike(row, Row("a", [(0, (0,)), (1, (0,))], [8, 7, 9]))

    def test_a_length_that_does_not_tell(self):
        row = Row("a", [(0, (0,)), (1, (0,))], [5, 7, 9])
        for lengths in ([5, 8, 9], [5, 5, 9], [5, 7, 0], [5, 7], [5, 7, 9, 9]):
            self.alike(row, Row("a", [(0, (0,)), (1, (0,))], lengths))

    def test_blocks(self):
        def block(entries, lengths, word="a", size=4):
            return Row(word, entries, lengths, size=size).blocks()[0]

        one = block([(0, (0,)), (2, (1, 3))], [5, 7, 9])
        self.alike(one, block([(0, (0,)), (2, (1, 3))], [5, 0, 8], "b", 2))
        self.unlike(one, block([(0, (0,)), (2, (1, 3))], [6, 7, 9]))
        self.unlike(one, block([(1, (0,)), (2, (1, 3))], [5, 5, 9]))
        self.unlike(one, block([(0, (0,)), (1, (1, 3))], [5, 7, 9]))
        self.unlike(one, block([(0, (0,)), (2, (1, 4))], [5, 7, 9]))
        self.unlike(one, block([(0, (0, 1)), (2, (1,))], [5, 7, 9]))
        self.unlike(one, block([(0, (0,)), (1, (0,)), (2, (1, 3))], [5, 7, 9]))
        self.unlike(one, block([(0, (0,))], [5, 7, 9]))

    def test_each_value_of_a_head_tells(self):
        for name, value in (("first", 9), ("last", 9), ("many", 9), ("most", 9), ("least", 9), ("coded", "a")):
            one, other = [Row("a", ENTRIES, LENGTHS).blocks()[0] for _ in range(2)]
            self.alike(one, other)
            setattr(other, name, value)
            self.unlike(one, other)

    def test_neither_equals_anything_else(self):
        row = Row("a", ENTRIES, LENGTHS)
        empty = Row("a", [], [])
        block = row.blocks()[0]
        others = NO_TEXTS + ["", "a", block.coded, row.entries(), row.blocks(), heads(row)[0], {}, object()]
        for other in others:
            for one in (row, empty, block):
                self.unlike(one, other)
        self.unlike(row, block)
        self.unlike(Row("a", [(0, (0,))], [1]), Row("a", [(0, (0,))], [1]).blocks()[0])


if __name__ == "__main__":
    unittest.main()
