"""Points 6, 7 and 8: codes of numbers, of rising lists, of entries."""

import itertools
import random
import re
import unittest

from blocksearch.codes import (
    code, code_all, code_entries, code_rising, decode, decode_entries, decode_rising,
)
from blocksearch.errors import NoCode, NoEntries, NoNumber, NoRow
from things import NO_TEXTS, NO_WHOLES

BIG = [10 ** 59, 10 ** 60, 10 ** 60 + 1, 16 ** 50, 16 ** 50 - 1, 16 ** 50 + 1, 10 ** 399, 10 ** 400 - 1]
NUMBERS = list(range(600)) + [4095, 4096, 4097, 65535, 65536] + BIG
NO_COUNTS = NO_WHOLES + [-1, -16, -10 ** 60]
NO_LISTS = [thing for thing in NO_TEXTS + NO_WHOLES if not isinstance(thing, list)] + [(0, 1), "ab"]


def plain_code(number):
    """The code by another way: from the figures that Python itself writes."""
    figures = f"{number:x}"[::-1]
    digits = [int(figure, 16) for figure in figures]
    return "".join(chr(65 + digit) for digit in digits[:-1]) + chr(97 + digits[-1])


def sign_texts(signs, most):
    return ["".join(row) for many in range(most + 1) for row in itertools.product(signs, repeat=many)]


class Asking(unittest.TestCase):
    def refused(self, error, at, call, *given):
        with self.assertRaises(error) as caught:
            call(*given)
        self.assertEqual(caught.exception.at, at, given)
        self.assertNotIsInstance(caught.exception.at, bool)


class NumberTests(Asking):
    def test_the_documents_codes(self):
        for number, text in ((0, "a"), (15, "p"), (16, "Ab"), (255, "Pp"), (1, "b"), (17, "Bb"), (256, "AAb")):
            self.assertEqual(code(number), text)
            self.assertEqual(decode(text), [number])

    def test_numbers_there_and_back(self):
        for number in NUMBERS:
            self.assertEqual(code(number), plain_code(number))
            self.assertEqual(decode(code(number)), [number])

    def test_what_is_no_number_from_0_on(self):
        for thing in NO_COUNTS:
            with self.assertRaises(NoNumber):
                code(thing)

    def test_lists_there_and_back(self):
        for numbers in ([], [0], [0, 0], [16, 0, 255], NUMBERS, NUMBERS[::-1]):
            text = "".join(plain_code(number) for number in numbers)
            self.assertEqual(code_all(numbers), text)
            self.assertEqual(decode(text), numbers)

    def test_a_wrong_thing_at_each_place(self):
        for thing in NO_COUNTS:
            for at in range(4):
                numbers = [0, 300, 0]
                numbers.insert(at, thing)
                self.refused(NoRow, at, code_all, numbers)
                self.refused(NoRow, at, code_all, numbers + [thing])

    def test_things_that_are_no_lists(self):
        for thing in NO_LISTS:
            self.refused(NoRow, None, code_all, thing)
            self.refused(NoRow, None, code_rising, thing)
            self.refused(NoEntries, None, code_entries, thing)

    def test_things_that_are_no_texts(self):
        for thing in NO_TEXTS:
            for call in (decode, decode_rising, decode_entries):
                self.refused(NoCode, None, call, thing)

    def test_the_empty_text(self):
        self.assertEqual(decode(""), [])
        self.assertEqual(decode_rising(""), [])
        self.refused(NoCode, 0, decode_entries, "")

    def test_a_wrong_sign_at_each_place(self):
        text = code_all([0, 255, 16, 70000, 5])
        for sign in ["\n"] + [chr(number) for number in range(32, 127)]:
            if re.match("[a-pA-P]", sign):
                continue
            for at in range(len(text) + 1):
                for wrong in (text[:at] + sign, text[:at] + sign + text[at:], text[:at] + sign * 2):
                    self.refused(NoCode, at, decode, wrong)
                    self.refused(NoCode, at, decode_rising, wrong)

    def test_each_beginning_of_a_code(self):
        text = code_all([0, 255, 16, 70000, 5])
        for many in range(len(text) + 1):
            beginning = text[:many]
            if beginning[-1:].isupper():
                self.refused(NoCode, many, decode, beginning)
                self.refused(NoCode, many, decode_rising, beginning)
            else:
                self.assertEqual(code_all(decode(beginning)), beginning)

    def test_a_last_digit_0_that_is_not_the_code_of_0(self):
        for text, at in (("Aa", 1), ("Pa", 1), ("ABa", 2), ("aAa", 2), ("bAAAaq", 4), ("Aa?", 1)):
            self.refused(NoCode, at, decode, text)
            self.refused(NoCode, at, decode_rising, text)

    def test_all_short_texts(self):
        whole = re.compile("(?:[a-p]|[A-P]+[b-p])*")
        begun = re.compile("(?:[a-p]|[A-P]+[b-p])*[A-P]*")
        for text in sign_texts("abpABq", 5):
            if whole.fullmatch(text):
                numbers = decode(text)
                self.assertEqual(code_all(numbers), text)
                self.assertEqual(code_rising(decode_rising(text)), text)
                continue
            wrong = [at for at in range(len(text)) if not begun.fullmatch(text[:at + 1])]
            self.refused(NoCode, (wrong + [len(text)])[0], decode, text)
            self.refused(NoCode, (wrong + [len(text)])[0], decode_rising, text)

    def test_very_long_texts(self):
        for text in ("a" * 20000, "P" * 19999 + "p", "A" * 19999 + "b"):
            self.assertEqual(code_all(decode(text)), text)
        self.refused(NoCode, 20000, decode, "A" * 20000)
        self.refused(NoCode, 19999, decode, "A" * 19999 + "a")

    def test_what_is_handed_in_is_not_changed(self):
        numbers = [0, 3, 20]
        entries = [(2, (0, 3)), (5, (1,))]
        code_all(numbers), code_rising(numbers), code_entries(entries)
        self.assertEqual(numbers, [0, 3, 20])
        self.assertEqual(entries, [(2, (0, 3)), (5, (1,))])

    def test_each_list_is_a_new_one(self):
        for call, text in ((decode, "ab"), (decode_rising, "ab"), (decode_entries, "bcbac")):
            told = call(text)
            before = list(told)
            told.append(9)
            told[0] = None
            self.assertEqual(call(text), before)

    def test_arguments_by_their_names(self):
        self.assertEqual(code(number=16), "Ab")
        self.assertEqual(code_all(numbers=[16]), "Ab")
        self.assertEqual(decode(text="Ab"), [16])
        self.assertEqual(code_rising(numbers=[0, 2]), "ab")
        self.assertEqual(decode_rising(text="ab"), [0, 2])
        self.assertEqual(code_entries(entries=[(2, (0, 3))]), "bcbac")
        self.assertEqual(decode_entries(text="bcbac"), [(2, (0, 3))])


class RisingTests(Asking):
    def test_gaps(self):
        for numbers, text in (
            ([], ""), ([0], "a"), ([5], "f"), ([0, 1], "aa"), ([0, 1, 2], "aaa"), ([0, 2], "ab"), ([3, 7], "dd"),
            ([0, 16], "ap"), ([0, 17], "aAb"), ([0, 18], "aBb"), ([16, 17], "Aba"), ([15, 31, 48], "ppAb"),
        ):
            self.assertEqual(code_rising(numbers), text)
            self.assertEqual(decode_rising(text), numbers)

    def test_big_numbers(self):
        numbers = sorted(BIG)
        self.assertEqual(decode_rising(code_rising(numbers)), numbers)
        self.assertEqual(code_rising([10 ** 60, 10 ** 60 + 1]), plain_code(10 ** 60) + "a")

    def test_all_short_rising_lists(self):
        codes = set()
        for many in range(5):
            for numbers in itertools.combinations(range(9), many):
                text = code_rising(list(numbers))
                codes.add(text)
                self.assertEqual(decode_rising(text), list(numbers))
        self.assertEqual(len(codes), 1 + 9 + 36 + 84 + 126)

    def test_the_first_wrong_place(self):
        for numbers, at in (
            ([0, 0], 1), ([3, 3, 3], 1), ([0, 5, 5], 2), ([5, 4], 1), ([0, 9, 3, 10], 2), ([-1], 0), ([-1, 0], 0),
            ([0, -1], 1), ([True, 2], 0), ([0, True], 1), ([False], 0), ([0, 2, 1, "x"], 2), ([0, 2, "x", 1], 2),
        ):
            self.refused(NoRow, at, code_rising, numbers)

    def test_a_wrong_thing_at_each_place(self):
        for thing in NO_COUNTS:
            for at in range(4):
                numbers = [2, 30, 400]
                numbers.insert(at, thing)
                self.refused(NoRow, at, code_rising, numbers)


class EntryTests(Asking):
    def test_the_documents_code(self):
        self.assertEqual(code_entries([(2, (0, 3))]), "bcbac")
        self.assertEqual(decode_entries("bcbac"), [(2, (0, 3))])

    def test_other_codes(self):
        for entries, text in (
            ([], "a"),
            ([(0, (0,))], "baaa"),
            ([(0, (0,)), (1, (0,))], "caaaaaa"),
            ([(1, (2,)), (18, (0, 17))], "cb" + "Ab" + "ac" + "baAb"),
            ([(16, (5, 6, 7))], "bAb" + "cfaa"),
            ([(3, tuple(range(17)))], "bd" + "Ab" + "a" * 17),
        ):
            self.assertEqual(code_entries(entries), text)
            self.assertEqual(decode_entries(text), entries)

    def test_kinds_of_what_is_told(self):
        told = decode_entries(code_entries([(1, (2,)), (18, (0, 17))]))
        self.assertIsInstance(told, list)
        for entry in told:
            self.assertIsInstance(entry, tuple)
            self.assertIsInstance(entry[1], tuple)

    def test_many_lists_there_and_back(self):
        chance = random.Random(8)
        seen = {}
        for _ in range(400):
            entries = []
            for slot in sorted(chance.sample(range(40), chance.randrange(6))):
                places = chance.sample(range(40), chance.randrange(1, 20))
                entries.append((slot, tuple(sorted(places))))
            text = code_entries(entries)
            self.assertEqual(decode_entries(text), entries)
            self.assertEqual(seen.setdefault(text, entries), entries)

    def test_big_numbers(self):
        entries = [(10 ** 60, (10 ** 70, 10 ** 70 + 1)), (10 ** 61, (0, 10 ** 99))]
        self.assertEqual(decode_entries(code_entries(entries)), entries)

    def test_wrong_entries_at_each_place(self):
        for thing in NO_WHOLES + [
            0, 7, (5,), (5, (1,), 1), [5, (1,)], (5, [1]), (5, ()), (5, 1), (5, None), (5, "b"), (5, (1, 1)),
            (5, (2, 1)), (5, (-1,)), (5, (-1, 1)), (5, (True,)), (5, (0, True)), (5, (1, "a")), (5, ((1,),)),
            (-1, (1,)), (True, (1,)), (None, (1,)), ("a", (1,)), ((5,), (1,)), ((1,), 5),
        ]:
            for at in range(4):
                entries = [(9, (0,)), (10, (0, 1)), (30, (2,))]
                entries.insert(at, thing)
                self.refused(NoEntries, at, code_entries, entries)
                self.refused(NoEntries, at, code_entries, entries + [thing])

    def test_slots_that_do_not_rise(self):
        for slots, at in (([1, 1], 1), ([2, 1], 1), ([0, 5, 5, 6], 2), ([0, 5, 4], 2), ([3, 0, 1], 1)):
            self.refused(NoEntries, at, code_entries, [(slot, (0,)) for slot in slots])

    def test_each_beginning_of_a_code(self):
        text = code_entries([(1, (2, 300)), (18, (0, 17)), (400, (5,))])
        for many in range(len(text)):
            self.refused(NoCode, many, decode_entries, text[:many])

    def test_a_sign_behind_the_end(self):
        for entries in ([], [(2, (0, 3))], [(1, (2, 300)), (18, (0, 17))]):
            text = code_entries(entries)
            for sign in "abpABPqQ ~1\n":
                self.refused(NoCode, len(text), decode_entries, text + sign)
                self.refused(NoCode, len(text), decode_entries, text + sign + "a")

    def test_a_wrong_sign_at_each_place(self):
        text = code_entries([(1, (2, 300)), (18, (0, 17)), (400, (5,))])
        for at in range(len(text)):
            for sign in "qQzZ 1~\n":
                self.refused(NoCode, at, decode_entries, text[:at] + sign + text[at:])
                self.refused(NoCode, at, decode_entries, text[:at] + sign)

    def test_more_entries_told_than_come(self):
        self.refused(NoCode, 200, decode_entries, "P" * 199 + "p")
        self.refused(NoCode, 202, decode_entries, "P" * 199 + "paa")
        self.refused(NoCode, 203, decode_entries, "ba" + "P" * 200 + "p")

    def completed(self, beginning):
        """Whether some text of a few signs more is a code: this tells what could go on."""
        for tail in itertools.chain(sign_texts("ab", 3), ("b" + "a" * many for many in range(12)),
                                    ("a" * many for many in range(12))):
            try:
                decode_entries(beginning + tail)
                return True
            except NoCode:
                pass
        return False

    def test_all_short_texts(self):
        for text in sign_texts("abcAq", 5):
            try:
                entries = decode_entries(text)
            except NoCode as refused:
                at = refused.at
                self.assertLessEqual(at, len(text))
                # A count with a digit ahead wants more than sixteen entries: its end is out of reach here.
                if "A" not in text:
                    self.assertTrue(self.completed(text[:at]), text)
                if at < len(text):
                    self.assertFalse(self.completed(text[:at + 1]), text)
            else:
                self.assertEqual(code_entries(entries), text)


if __name__ == "__main__":
    unittest.main()
