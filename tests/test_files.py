"""Points 38 and 39: whole texts, and segments as rows."""

import inspect
import random
import unittest

from blocksearch.codes import code_entries
from blocksearch.errors import Torn
from blocksearch.files import rows_of, segment_of, segment_rows, whole_text
from blocksearch.pages import Page
from blocksearch.segments import Segment
from plain import some_pages
from plainfiles import check_plainly, pages_plainly, rows_plainly, segment_rows_plainly, text_plainly
from things import NO_TEXTS, NO_WHOLES, NO_WORDS

SOME_ROWS = [[], [""], ["a"], ["", ""], ["a", "", "b c ~ "], ["0001:0001"], ["4", "1:1", "a baa"], [" " * 30], ["~" * 9] * 9]


class Case(unittest.TestCase):
    def torn(self, read, thing):
        for name in ("", "h7", "some.name"):
            with self.assertRaises(Torn) as caught:
                read(thing, name=name)
            self.assertEqual(caught.exception.name, name)
        with self.assertRaises(Torn) as caught:
            read(thing)
        self.assertEqual(caught.exception.name, "")

    def check_text(self, text):
        due = rows_plainly(text)
        if due is None:
            self.torn(rows_of, text)
        else:
            self.assertEqual(rows_of(text), due)
        return due is None


class WholeTests(Case):
    def test_texts(self):
        self.assertEqual(whole_text([]), "0000:0001\n")
        # 31 and 10; then 31 times 128 and 10.
        self.assertEqual(whole_text([""]), "0001:0029\n\n")
        self.assertEqual(whole_text(["a"]), f"0001:{31 * 128 + 10:04x}\na\n")
        for rows in SOME_ROWS:
            self.assertEqual(whole_text(rows), text_plainly(rows))
            self.assertEqual(rows_of(whole_text(rows)), rows)

    def test_drawn_rows(self):
        chance = random.Random(38)
        for _ in range(200):
            rows = ["".join(chance.choices("ab ~!0:", k=chance.randrange(12))) for _ in range(chance.randrange(12))]
            self.assertEqual(whole_text(rows), text_plainly(rows))
            self.assertEqual(rows_of(whole_text(rows)), rows)

    def test_many_rows(self):
        for many in (9, 10, 99, 100, 999, 1000, 9998, 9999):
            rows = [str(at) for at in range(many)]
            text = whole_text(rows)
            self.assertTrue(text.startswith(f"{many:04d}:"))
            self.assertEqual(rows_of(text), rows)
        beyond = [""] * 10000
        self.torn(rows_of, whole_text(beyond))
        self.torn(rows_of, "0000" + whole_text(beyond)[5:])
        self.torn(rows_of, "1000" + whole_text(beyond)[5:])

    def test_long_rows(self):
        for row in ("x" * 20000, " " * 20000, "~" * 20000):
            self.assertEqual(rows_of(whole_text([row, "a", row])), [row, "a", row])
        self.torn(rows_of, whole_text(["x" * 20001]))
        self.torn(rows_of, whole_text(["a", "x" * 20001]))

    def test_each_sign_may_stand_in_a_row(self):
        row = "".join(chr(number) for number in range(32, 127))
        self.assertEqual(rows_of(whole_text([row])), [row])
        for sign in ("\x1f", "\x7f", "\t", "\r", "\x00", "\x0b", "\x1c", "\x85", "\u2028", "\xe9"):
            self.torn(rows_of, whole_text(["a" + sign]))
            self.torn(rows_of, whole_text([sign]))

    def test_a_text_that_ends_sooner_at_each_place(self):
        for rows in SOME_ROWS:
            text = whole_text(rows)
            for end in range(len(text)):
                self.torn(rows_of, text[:end])

    def test_one_sign_put_otherwise_at_each_place(self):
        signs = "\n" + "".join(chr(number) for number in range(32, 127))
        for rows in SOME_ROWS:
            text = whole_text(rows)
            for at in range(len(text)):
                for sign in signs.replace(text[at], "") if len(text) < 30 else chance_signs(text, at):
                    self.torn(rows_of, text[:at] + sign + text[at + 1:])

    def test_one_sign_put_in_or_left_out_at_each_place(self):
        torn = 0
        for rows in SOME_ROWS:
            text = whole_text(rows)
            for at in range(len(text) + 1):
                torn += self.check_text(text[:at] + text[at + 1:]) if at < len(text) else 0
                for sign in "\n a0~:":
                    torn += self.check_text(text[:at] + sign + text[at:])
        self.assertGreater(torn, 500)

    def test_more_behind_it(self):
        for rows in SOME_ROWS:
            for more in ("\n", "a", "a\n", " ", whole_text(rows), whole_text([])):
                self.torn(rows_of, whole_text(rows) + more)

    def test_figures_and_letters_that_are_none(self):
        text = whole_text(["abc", "d"])
        count, check, body = text[:4], text[5:9], text[10:]
        for head in ("2:" + check, "002:" + check, "00002:" + check, "0002:" + check[:3], "0002:0" + check,
                     "0002:" + check.upper(), "0001:" + check, "0003:" + check, "+002:" + check, "  2:" + check,
                     "0002" + check, "0002::" + check, "0002: " + check, " 0002:" + check, "0002 " + check, ""):
            self.torn(rows_of, head + "\n" + body)
        self.assertNotEqual(check.upper(), check)
        self.assertEqual(rows_of(f"{count}:{check}\n{body}"), ["abc", "d"])

    def test_a_check_with_noughts_ahead(self):
        short = [row for row in (chr(number) * 2 for number in range(32, 127)) if check_plainly([row]) < 16 ** 3]
        for row in short:
            text = whole_text([row])
            self.assertEqual(text[5], "0")
            self.assertEqual(rows_of(text), [row])
            self.torn(rows_of, text[:5] + text[6:])
            self.torn(rows_of, text[:5] + " " + text[6:])

    def test_things_of_any_kind(self):
        for thing in NO_TEXTS + NO_WHOLES + NO_WORDS + [b"0000:0001\n", ["0000:0001\n"]]:
            self.torn(rows_of, thing)

    def test_told_rows_are_the_askers_own(self):
        rows = ["a", "b"]
        text = whole_text(rows)
        rows_of(text).clear()
        self.assertEqual((rows, rows_of(text)), (["a", "b"], ["a", "b"]))

    def test_arguments(self):
        self.assertEqual(rows_of(text=whole_text(rows=["a"]), name="x"), ["a"])
        for ask in (rows_of, segment_of):
            self.assertEqual(inspect.signature(ask).parameters["name"].kind, inspect.Parameter.KEYWORD_ONLY)


def chance_signs(text, at):
    return [sign for sign in "\n 0af~:Z" if sign != text[at]]


def some_segments(seed, many):
    chance = random.Random(seed)
    for _ in range(many):
        pages = some_pages(chance, chance.randrange(1, 12), chance.choice(["a", "ab", "abcdef"]), chance.choice([1, 9]))
        yield chance, pages, chance.randrange(1, 9)


class SegmentRowTests(Case):
    def check_rows(self, rows):
        own = pages_plainly(rows) is not None
        if own:
            self.assertEqual(segment_rows(segment_of(rows)), rows)
        else:
            self.torn(segment_of, rows)
        return own

    def test_an_ordinary_segment(self):
        segment = Segment([Page(7, "a b a"), Page(3), Page(5, "b c")], size=2)
        self.assertEqual(segment_rows(segment), ["2", "3:0 5:2 7:3", "a bcbab", "b cbaaaab", "c bbab"])
        self.assertEqual(segment_of(["2", "3:0 5:2 7:3", "a bcbab", "b cbaaaab", "c bbab"]), segment)

    def test_segments_of_many_kinds(self):
        for chance, pages, size in some_segments(39, 200):
            segment = Segment(pages, size=size)
            rows = segment_rows(segment)
            self.assertEqual(rows, segment_rows_plainly(pages, size))
            again = segment_of(rows)
            self.assertEqual(again, segment)
            self.assertEqual(again.size, size)
            self.assertEqual([again.page(slot) for slot in range(len(again))],
                             sorted(pages, key=lambda page: page.number))
            self.assertEqual(rows_of(whole_text(rows)), rows)

    def test_pages_without_words(self):
        segment = Segment([Page(1), Page(9999)], size=8)
        self.assertEqual(segment_rows(segment), ["8", "1:0 9999:0"])
        self.assertEqual(segment_of(["8", "1:0 9999:0"]), segment)

    def test_full_segments(self):
        chance = random.Random(60)
        words = ["".join(chance.choices("abcdefghij", k=12)) for _ in range(40)]
        for letters in (["a"], words):
            pages = [Page(number, " ".join(chance.choices(letters, k=120))) for number in range(9940, 10000)]
            segment = Segment(pages, size=3)
            self.assertEqual(segment_of(rows_of(whole_text(segment_rows(segment)))), segment)

    def test_single_wrong_rows(self):
        rows = ["2", "3:0 5:2 7:3", "a bcbab", "b cbaaaab", "c bbab"]
        self.assertTrue(self.check_rows(rows))
        for wrong in (
            [], ["2"], rows[:1], rows[1:], rows[2:], rows[:2], rows[:3], rows[:4], rows + ["d"], rows + [""],
            rows + ["d bbab"], rows + rows[4:], [rows[0]] + rows[2:], rows[:2] + rows[3:] + rows[2:3],
            ["0"] + rows[1:], ["9"] + rows[1:], ["02"] + rows[1:], ["2 "] + rows[1:], [" 2"] + rows[1:], [""] + rows[1:],
            ["1"] + rows[1:], ["-2"] + rows[1:], ["+2"] + rows[1:], ["2\n"] + rows[1:],
            rows[:1] + ["03:0 5:2 7:3"] + rows[2:], rows[:1] + ["3:00 5:2 7:3"] + rows[2:],
            rows[:1] + ["3:0 5:2 7:03"] + rows[2:], rows[:1] + ["3:0 5:2 7:4"] + rows[2:],
            rows[:1] + ["3:0 5:2 7:2"] + rows[2:], rows[:1] + ["3:1 5:2 7:3"] + rows[2:],
            rows[:1] + ["3:0  5:2 7:3"] + rows[2:], rows[:1] + [" 3:0 5:2 7:3"] + rows[2:],
            rows[:1] + ["3:0 5:2 7:3 "] + rows[2:], rows[:1] + ["5:2 3:0 7:3"] + rows[2:],
            rows[:1] + ["3:0 5:2 5:3"] + rows[2:], rows[:1] + ["3:0 5:2"] + rows[2:], rows[:1] + [""] + rows[2:],
            rows[:1] + ["0:0 5:2 7:3"] + rows[2:], rows[:1] + ["3:0 5:2 10000:3"] + rows[2:],
            rows[:1] + ["3:0:0 5:2 7:3"] + rows[2:], rows[:1] + ["3 5:2 7:3"] + rows[2:],
            rows[:1] + ["3:0 5:2 7:121"] + rows[2:], rows[:1] + ["3:0 5:2 7:" + "9" * 5000] + rows[2:],
            rows[:1] + ["3:0 5:2 " + "9" * 5000 + ":3"] + rows[2:], rows[:1] + ["3: 5:2 7:3"] + rows[2:],
            rows[:2] + ["a"] + rows[3:], rows[:2] + ["a "] + rows[3:], rows[:2] + ["a bcbab "] + rows[3:],
            rows[:2] + ["a  bcbab"] + rows[3:], rows[:2] + [" a bcbab"] + rows[3:], rows[:2] + ["A bcbab"] + rows[3:],
            rows[:2] + ["a bcbab bcbab"] + rows[3:], rows[:2] + ["a bcbaa"] + rows[3:], rows[:2] + ["a bcbac"] + rows[3:],
            rows[:2] + ["a bdbab"] + rows[3:], rows[:2] + ["a bcbabb"] + rows[3:], rows[:2] + ["a bcba"] + rows[3:],
            rows[:2] + ["a a"] + rows[3:], rows[:2] + ["a bcbab a"] + rows[3:], rows[:2] + ["a bcaa bcac"] + rows[3:],
            rows[:2] + ["c bcbab", "b cbaaaab", "a bbab"], rows[:3] + ["b bbaa bcab"] + rows[4:],
            rows[:2] + ["a" * 13 + " bcbab"] + rows[3:], rows[:2] + ["a b" + "P" * 9000 + "b"] + rows[3:],
        ):
            self.assertFalse(self.check_rows(wrong), wrong)
        # These are another segment's own rows.
        for right in (rows[:1] + ["4:0 5:2 7:3"] + rows[2:], rows[:4] + ["d bbab"], ["3"] + rows[1:]):
            self.assertTrue(self.check_rows(right), right)

    def test_too_many_pages(self):
        sixty = [f"{number}:0" for number in range(1, 61)]
        self.assertTrue(self.check_rows(["4", " ".join(sixty)]))
        self.assertFalse(self.check_rows(["4", " ".join(sixty + ["61:0"])]))
        self.assertFalse(self.check_rows(["4", " ".join(f"{number}:0" for number in range(1, 2000))]))

    def test_lengths_at_the_edge(self):
        rows = segment_rows(Segment([Page(1, " ".join(["a"] * 120))]))
        self.assertTrue(self.check_rows(rows))
        self.assertFalse(self.check_rows([rows[0], "1:119", rows[2]]))
        beyond = code_entries([(0, tuple(range(121)))])
        self.assertFalse(self.check_rows(["4", "1:121", "a " + beyond]))

    def test_two_words_at_one_place_and_a_place_without(self):
        self.assertTrue(self.check_rows(["4", "1:2", "a baaa", "b baab"]))
        self.assertFalse(self.check_rows(["4", "1:2", "a baaa", "b baaa"]))
        self.assertFalse(self.check_rows(["4", "1:2", "a baba", "b baab"]))
        self.assertFalse(self.check_rows(["4", "1:3", "a baaa", "b baab"]))
        self.assertFalse(self.check_rows(["4", "1:1"]))

    def test_rows_changed_at_each_place(self):
        kinds = {True: 0, False: 0}
        for chance, pages, size in some_segments(93, 30):
            rows = segment_rows_plainly(pages, size)
            for at in range(len(rows)):
                for other in (rows[:at] + rows[at + 1:], rows[:at] + rows[at:at + 1] + rows[at:],
                              rows[:at] + rows[at + 1:at + 2] + rows[at:at + 1] + rows[at + 2:]):
                    if other != rows:
                        kinds[self.check_rows(other)] += 1
                for place in range(len(rows[at]) + 1):
                    for sign in ("", *chance.sample("aApPb 0129:", 3)):
                        for behind in (place, place + 1):
                            row = rows[at][:place] + sign + rows[at][behind:]
                            if row != rows[at]:
                                kinds[self.check_rows(rows[:at] + [row] + rows[at + 1:])] += 1
        self.assertGreater(kinds[True], 100)
        self.assertGreater(kinds[False], 5000)

    def test_things_of_any_kind(self):
        for thing in NO_TEXTS + NO_WHOLES + NO_WORDS + [("4", "1:0"), "4\n1:0", ["4", None], [4, "1:0"], [True, "1:0"],
                                                        ["4", ["1:0"]], ["4", "1:0", None], ["4", "1:0", ("a",)]]:
            self.torn(segment_of, thing)

    def test_nothing_is_changed_or_kept(self):
        rows = ["4", "1:1", "a baaa"]
        segment = segment_of(rows=rows, name="s1.0")
        self.assertEqual(rows, ["4", "1:1", "a baaa"])
        rows.clear()
        told = segment_rows(segment)
        told.clear()
        self.assertEqual(segment_rows(segment=segment), ["4", "1:1", "a baaa"])


if __name__ == "__main__":
    unittest.main()
