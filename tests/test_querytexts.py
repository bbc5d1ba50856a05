"""Point 16: texts of queries."""

import random
import re
import unittest

from blocksearch.errors import NoQuery, NoQueryText
from blocksearch.queries import is_query
from blocksearch.querytexts import read, show
from plain import deepness, some_query, words_in_all
from things import NO_QUERIES, NO_TEXTS

A, B, C, D, E, F = [("word", letter) for letter in "abcdef"]
FIVE = ("phrase", *"abcde")
SHOWN = [
    (A, "a"), (("word", "q" * 12), "q" * 12), (("phrase", "a", "b"), '"a b"'), (FIVE, '"a b c d e"'),
    (("near", 1, "a", "b"), "a~1~b"), (("near", 20, "ab", "cd"), "ab~20~cd"), (("near", 7, "a", "a"), "a~7~a"),
    (("and", A, B), "(a & b)"), (("or", A, B, C), "(a | b | c)"), (("and", A, B, C, D), "(a & b & c & d)"),
    (("but", A, B), "(a - b)"),
    (("and", A, ("phrase", "b", "c"), ("but", D, ("near", 2, "e", "f"))), '(a & "b c" & (d - e~2~f))'),
    (("but", ("but", A, B), ("but", C, D)), "((a - b) - (c - d))"),
    (("and", ("or", ("and", ("or", A, B), C), D), E), "((((a | b) & c) | d) & e)"),
    (("and", A, ("or", B, ("and", C, ("or", D, E)))), "(a & (b | (c & (d | e))))"),
    (("or", FIVE, FIVE, ("near", 3, "a", "b")), '("a b c d e" | "a b c d e" | a~3~b)'),
    (("or", *[("and", A, B, C)] * 4), "((a & b & c) | (a & b & c) | (a & b & c) | (a & b & c))"),
]
SIGNS = 'ab~12039"(&|-) A\n{`'

WORD = r"[a-z]{1,12}(?![a-z])"
LEAF = re.compile(rf'"{WORD}(?: {WORD}){{1,4}}"|{WORD}~(?:1[0-9]|20|[1-9])~{WORD}|{WORD}')
JOINED = re.compile(r"\(<[0-9,]+>(?:(?: & <[0-9,]+>){1,3}|(?: \| <[0-9,]+>){1,3}| - <[0-9,]+>)\)")


def leaf_mark(match):
    return f"<1,{len(re.findall('[a-z]+', match[0]))}>"


def joined_mark(match):
    marks = [tuple(map(int, mark.split(","))) for mark in re.findall(r"<([0-9,]+)>", match[0])]
    return f"<{1 + max(deep for deep, words in marks)},{sum(words for deep, words in marks)}>"


def is_query_text(text):
    """Whether a text is that of a query, by putting a mark for each part, from within."""
    if "<" in text or "," in text:
        return False
    now, ahead = LEAF.sub(leaf_mark, text), None
    while now != ahead:
        now, ahead = JOINED.sub(joined_mark, now), now
    mark = re.fullmatch("<([0-9]+),([0-9]+)>", now)
    return bool(mark) and int(mark[1]) <= 5 and int(mark[2]) <= 12


def ends(prefix):
    """Ends with one of which a beginning of a text of a query becomes a whole one, with as few words as may be."""
    opened = []
    for sign in prefix:
        if sign == "(":
            opened.append(False)
        elif sign in "&|-" and opened:
            opened[-1] = True
        elif sign == ")" and opened:
            opened.pop()
    outer = "".join(")" if joined else " & a)" for joined in reversed(opened[:-1]))
    inner = [""] if not opened else [")", " & a)", "& a)", "| a)", "- a)", " a)", " | a)", " - a)"]
    for token in ("", "a", "~a", "1~a", "~1~a", 'a"', ' a"', '"', 'a a"'):
        for close in inner:
            yield token + close + outer


def can_go_on(prefix):
    return any(is_query_text(prefix + end) for end in ends(prefix))


def first_wrong(text):
    """The field that is due, by trying each beginning of the text; "right" if there is none."""
    for at in range(len(text)):
        if not can_go_on(text[:at + 1]):
            return at
    return "right" if is_query_text(text) else len(text)


def told(text):
    try:
        query = read(text)
    except NoQueryText as wrong:
        return wrong.at
    assert is_query(query) and show(query) == text, text
    return "right"


def many_queries():
    chance = random.Random(16)
    return [some_query(chance, ["a", "b", "z" * 12, "word"]) for _ in range(600)]


class ShowTests(unittest.TestCase):
    def test_each_kind(self):
        for query, text in SHOWN:
            self.assertEqual(show(query), text)
            self.assertEqual(read(text), query)

    def test_what_is_no_query(self):
        wrong = [("and", FIVE, FIVE, B, C, D), ("and", FIVE, FIVE, ("and", A, B, C)), ("but", A, B, C)]
        for thing in NO_QUERIES + wrong:
            with self.assertRaises(NoQuery):
                show(thing)

    def test_many_queries_come_back(self):
        queries = many_queries()
        for query in queries:
            self.assertEqual(read(show(query)), query)
        self.assertEqual({deepness(query) for query in queries}, {1, 2, 3, 4, 5})
        self.assertEqual({words_in_all(query) for query in queries}, set(range(1, 13)))

    def test_unlike_queries_have_unlike_texts(self):
        by_text = {}
        for query in many_queries():
            self.assertEqual(by_text.setdefault(show(query), query), query)

    def test_arguments_by_their_names(self):
        self.assertEqual(show(query=A), "a")
        self.assertEqual(read(text="a"), A)


class ReadTests(unittest.TestCase):
    def wrong(self, text, at):
        with self.assertRaises(NoQueryText) as caught:
            read(text)
        self.assertEqual(caught.exception.at, at, text)
        if isinstance(text, str):
            self.assertEqual(first_wrong(text), at, text)

    def right(self, *texts):
        for text in texts:
            self.assertTrue(is_query_text(text), text)
            self.assertEqual(show(read(text)), text)

    def test_things_that_are_no_texts(self):
        for thing in NO_TEXTS + [A, ("and", A, B), [A], ["a"], b"a"]:
            self.wrong(thing, None)

    def test_the_empty_text(self):
        self.wrong("", 0)

    def test_the_documents_own(self):
        self.wrong("(a~21", 4)
        self.wrong("a" * 13, 12)

    def test_every_beginning_of_a_text(self):
        for query, text in SHOWN:
            for many in range(len(text)):
                self.assertTrue(can_go_on(text[:many]), text[:many])
                if not is_query_text(text[:many]):
                    self.wrong(text[:many], many)

    def test_beginnings_of_many_texts(self):
        for query in many_queries():
            text = show(query)
            for many in range(len(text)):
                self.assertIn(told(text[:many]), (many, "right"), text[:many])

    def test_blanks(self):
        for text, at in ((" a", 0), ("a ", 1), ("a b", 1), ('" a b"', 1), ('"a  b"', 3), ('"a b "', 5), ("( a & b)", 1),
                         ("(a  & b)", 3), ("(a &  b)", 5), ("(a & b )", 7), ("(a & b) ", 7), ("(a& b)", 2),
                         ("(a &b)", 4), ("(a&b)", 2), ("a ~1~b", 1), ("a~ 1~b", 2), ("a~1 ~b", 3), ("a~1~ b", 4),
                         (" ", 0), ("(a & b & )", 9)):
            self.wrong(text, at)

    def test_words_of_12_and_13_letters(self):
        twelve, more = "m" * 12, "m" * 13
        self.right(twelve, f"{twelve}~3~{twelve}", f'"{twelve} {twelve}"', f"({twelve} & {twelve})")
        for text, at in ((more, 12), (f"{more}~3~a", 12), (f"a~3~{more}", 16), (f'"{more} a"', 13), (f'"a {more}"', 15),
                         (f"({more} & a)", 13), (f"(a & {more})", 17), ("A", 0), ("aB", 1), ("a`", 1), ("a{", 1),
                         ("a1", 1), ("a\n", 1), ("\n", 0)):
            self.wrong(text, at)

    def test_how_far(self):
        self.right(*[f"a~{far}~b" for far in range(1, 21)], "(a~20~b & c~1~d)")
        for far, at in (("0", 2), ("00", 2), ("01", 2), ("21", 3), ("22", 3), ("29", 3), ("30", 3), ("200", 4),
                        ("100", 4), ("111", 4), ("", 2), ("-1", 2), ("a", 2), ("1a", 3), ("+1", 2), ("2 ", 3)):
            self.wrong(f"a~{far}~b", at)
        for text in ("a~", "a~1", "a~2", "a~20", "a~1~"):
            self.wrong(text, len(text))
        self.wrong("a~1~b~1~c", 5)
        self.wrong("a~~b", 2)
        self.wrong("~1~b", 0)
        self.wrong("a~\u0661~b", 2)

    def test_phrases_of_one_and_of_six_words(self):
        self.right('"a b"', '"a b c"', '"a b c d"', '"a b c d e"')
        self.wrong('"a"', 2)
        self.wrong('""', 1)
        self.wrong('"a b c d e f"', 10)
        self.wrong('"a b c d e ', 10)
        self.wrong('"a b c d e', 10)
        self.wrong('"a b~1~c"', 4)
        self.wrong('"(a & b) c"', 1)
        self.wrong('"a b" c', 5)

    def test_ands_and_ors_of_one_and_of_five_queries(self):
        for sign in "&|":
            self.right(f"(a {sign} b)", f"(a {sign} b {sign} c)", f"(a {sign} b {sign} c {sign} d)")
            self.wrong(f"(a {sign} b {sign} c {sign} d {sign} e)", 14)
            self.wrong(f"(a {sign} b {sign} c {sign} d ", 14)
        self.wrong("(a)", 2)
        self.wrong("()", 1)
        self.wrong("(a & )", 5)
        self.wrong("(& a)", 1)

    def test_unlike_signs(self):
        self.wrong("(a & b | c)", 7)
        self.wrong("(a | b & c)", 7)
        self.wrong("(a | b - c)", 7)
        self.wrong("(a & b & c | d)", 11)
        self.wrong("(a + b)", 3)
        self.wrong("(a b)", 3)

    def test_buts_of_three(self):
        self.right("(a - b)")
        self.wrong("(a - b - c)", 6)
        self.wrong("(a - b & c)", 6)
        self.wrong("(a - b ", 6)

    def test_a_sixth_depth(self):
        self.right("((((a & b) & c) & d) & e)", '(((("a b" & b) & c) & d) & e)', "((((a~1~b & b) & c) & d) & e)")
        self.wrong("(((((a & b) & c) & d) & e) & f)", 4)
        self.wrong("(((((", 4)
        self.wrong("(a & (a & (a & (a & (a & a)))))", 20)
        self.wrong("((((", 4)
        third = "(a & a & (a | a | (a & a & (a | a | "
        self.right(third + "a))))")
        self.wrong(third + "(a & a)))))", len(third))

    def test_a_thirteenth_word(self):
        eleven = '("a b c d e" & "a b c d e" & a & '
        self.right(eleven + "b)")
        for end in ("(", '"', "(b & c)", '"b c"', '"'):
            self.wrong(eleven + end, len(eleven))
        self.wrong(eleven + "b~1~c)", len(eleven) + 1)
        ten = '("a b c d e" & "a b c d e" & '
        self.right(ten + '"a b")', ten + "(a - b))", ten + "a~1~b)", ten + "a & b)", ten + "a)")
        self.wrong(ten + '"a b c")', len(ten) + 4)
        self.wrong(ten + "(a & b & c))", len(ten) + 6)
        self.wrong(ten + "(a~1~b & c))", len(ten) + 2)
        self.wrong(ten + '("', len(ten) + 1)
        self.wrong(ten + "((", len(ten) + 1)
        self.wrong(ten + "a~1~b & c)", len(ten) + 5)

    def test_words_that_are_still_due_leave_no_room(self):
        # Each open bracket without its sign is due a query yet, so a word at least.
        nine = '((((a & a) & "a a a a a" '
        self.right(nine + "& a) & a & a) & a & a)")
        self.wrong(nine + "& a & a) & a & a & a) & a)", len(nine + "& a & a) & a & a"))
        self.wrong('(((("a a a a a" & "a a a a a") & ', len('(((("a a a a a" & "a a a a'))
        self.wrong('(((("a a a a a" & a & a & a~', len('(((("a a a a a" & a & a & a~'))
        self.wrong('(((("a a a a a" & a & a~1~a & a~', len('(((("a a a a a" & a & a~1~a & a'))
        self.right('(((("a a a a a" & a & a & a) & a) & a) & a)')

    def test_a_text_behind_the_end(self):
        for text, at in (("a)", 1), ("(a & b))", 7), ("(a & b)c", 7), ('"a b""', 5), ('"a b"~1~c', 5), ("a~1~b)", 5),
                         ("a & b", 1), ("(a & b) & c", 7), ("(a & b)~1~c", 7), ("(a & b)\n", 7)):
            self.wrong(text, at)

    def test_a_sign_put_in_left_out_and_put_otherwise_at_each_place(self):
        seen = set()
        for query, text in SHOWN:
            for at in range(len(text) + 1):
                for changed in ([text[:at] + text[at + 1:]]
                                + [text[:at] + sign + text[at:] for sign in SIGNS]
                                + [text[:at] + sign + text[at + 1:] for sign in SIGNS]):
                    # Places far behind the changed one are as right as they were, so a few signs will do.
                    if changed not in seen and len(changed) < 30:
                        self.assertEqual(told(changed), first_wrong(changed), changed)
                        seen.add(changed)
        self.assertGreater(len(seen), 3000)

    def test_many_texts_changed_at_one_place(self):
        chance = random.Random(61)
        rights = 0
        for query in many_queries()[:250]:
            text = show(query)
            at = chance.randrange(len(text) + 1)
            changed = text[:at] + chance.choice(["", chance.choice(SIGNS)]) + text[at + chance.randrange(2):]
            due = first_wrong(changed)
            rights += due == "right"
            self.assertEqual(told(changed), due, changed)
        self.assertGreater(rights, 20)

    def test_texts_of_any_signs(self):
        chance = random.Random(17)
        for _ in range(3000):
            text = "".join(chance.choice('ab~12"(&|-) ') for _ in range(chance.randrange(9)))
            self.assertEqual(told(text), first_wrong(text), text)

    def test_very_long_texts(self):
        self.wrong("a" * 20000, 12)
        with self.assertRaises(NoQueryText) as caught:
            read("(" * 20000)
        self.assertEqual(caught.exception.at, 4)


if __name__ == "__main__":
    unittest.main()
