"""Points 47 and 48: the desk."""

import random
import unittest

from blocksearch.best import best_plain
from blocksearch.commits import deeds_of, play
from blocksearch.desk import Desk
from blocksearch.disk import Disk
from blocksearch.errors import Full, Gone, NoDeed, NoFile, NoNumber, NoSize, NoText, Taken, Torn
from blocksearch.files import segment_rows, whole_text
from blocksearch.numerals import number_in
from blocksearch.pages import Page
from blocksearch.querytexts import read, show
from blocksearch.segments import Segment
from blocksearch.store import Store
from plain import matches_plainly, some_query
from things import NO_QUERIES, NO_TEXTS

# For each form of row a right one.
FORMS = ["put 5 a,b", "anew 5 a,b", "drop 1", "commit 2", "crash -", "crash 0,1", "recover", "seal", "merge 0 1", "pages",
         "hand", "find a", "best 3 (a,&,b)", "files", "log", "show 1", "why 1 a"]
FIRST_WORDS = sorted({row.split()[0] for row in FORMS})
NO_FIGURES = ["-1", "+1", "01", "00", "007", "1000000000", "0000000001", "1.", "1,2", "a", "1a", "0x1", "1_0", "-", "~", ",",
              "1" * 5000]
NO_PAGE_TEXTS = ["A", "a,", ",a", "a,,b", ",", "--", "a,-", "-,a", "a1", "1", "a.b", "abcdefghijklm", "a~", "a\n",
                 ",".join(["a"] * 121), "a;b", '"a"']
NO_QUERY_TEXTS = ["-", "A", "a,b", "(a)", "(a,&,b", "(a&b)", "(a,&,b,|,c)", '"a"', '"a,b', "a~0~b", "a~21~b", "a~~b",
                  "(a,-,b,-,c)", ",a", "a,", "abcdefghijklm", "()", "1", '("a,b",&,"c,d",&,"e,f,g,h,i",&,"j,k,l,m")',
                  "((((((a,&,b),&,c),&,d),&,e),&,f),&,g)", "a\n", "(a,&,,b)"]


def told(desk):
    """All that a desk tells but its log."""
    pages = desk.say("pages")
    texts = [] if pages == "none" else [desk.say("show " + number) for number in pages.split(",")]
    files = {name: desk.disk.read(name) for name in desk.disk.names()}
    return (pages, texts, desk.say("hand"), desk.say("files"), files, desk.disk.waiting(), desk.store.shelf(),
            [desk.say("best 200 " + word) for word in "ab"])


def said(*rows):
    desk = Desk()
    for row in rows:
        desk.say(row)
    return desk


class Case(unittest.TestCase):
    def check(self, desk, *rows):
        """Rows and their answers."""
        for row, answer in rows:
            self.assertEqual(desk.say(row), answer, row)

    def refused(self, desk, kind, row, **fields):
        """What is refused changes nothing but the log."""
        before, log = told(desk), desk.store.log(last=10 ** 9)
        with self.assertRaises(kind) as caught:
            desk.say(row)
        self.assertIs(type(caught.exception), kind)
        for name, value in fields.items():
            self.assertEqual(getattr(caught.exception, name), value)
        self.assertEqual(told(desk), before)
        return desk.store.log(last=10 ** 9)[len(log):]

    def no_text(self, desk, row):
        """What is no right row is no deed, either."""
        self.assertEqual(self.refused(desk, NoText, row), [])


class RowTests(Case):
    def setUp(self):
        self.desk = said("put 1 a,b,a", "put 2 -", "seal", "put 3 b")

    def test_each_form_is_taken(self):
        for row in FORMS:
            desk = said("put 1 a,b,a", "commit 99")
            if row.startswith("crash 0"):
                desk.disk.write("x", "")
                desk.disk.write("y", "")
            if row.startswith("merge"):
                desk.say("seal")
            self.assertIsInstance(desk.say(row), str)

    def test_a_word_too_few_or_too_many(self):
        for row in FORMS:
            words = row.split(" ")
            for wrong in (words[:-1], words + ["a"], words + ["1"], words + ["-"], words + words[1:]):
                if wrong != words and " ".join(wrong) not in FORMS:
                    self.no_text(self.desk, " ".join(wrong))

    def test_blanks(self):
        for row in FORMS:
            self.no_text(self.desk, " " + row)
            self.no_text(self.desk, row + " ")
            self.no_text(self.desk, row + "  ")
            if " " in row:
                self.no_text(self.desk, row.replace(" ", "  ", 1))
                self.no_text(self.desk, row.replace(" ", "\t"))
                self.no_text(self.desk, row.replace(" ", "\n"))
        # As many words as are due, but one of them is empty.
        for row in ("", " ", "  ", "\n", "put 5 ", "anew 5 ", "put  a", "drop ", "find ", "crash ", "best 3 ", "why 1 ",
                    " 5 a", "commit ", "show "):
            self.no_text(self.desk, row)

    def test_another_first_word(self):
        for row in FORMS:
            first, *rest = row.split(" ")
            for other in (first + "s", first[:-1], first.upper(), first.title(), first + "\n", "x", "-", "1", "a,b", ""):
                if other not in FIRST_WORDS:
                    self.no_text(self.desk, " ".join([other] + rest))
        for row in ("undo", "put_all 1 a", "page 1", "help", "page", "twin"):
            self.no_text(self.desk, row)

    def test_what_is_no_text(self):
        for thing in NO_TEXTS + [b"pages", ["pages"], ("pages",)]:
            self.no_text(self.desk, thing)
        for thing in NO_QUERIES:
            self.no_text(self.desk, thing)

    def test_numbers(self):
        for thing in NO_FIGURES:
            for row in (f"put {thing} a", f"anew {thing} a", f"drop {thing}", f"commit {thing}", f"merge {thing} 1",
                        f"merge 0 {thing}", f"best {thing} a", f"show {thing}", f"why {thing} a"):
                self.no_text(self.desk, row)
        for number in (0, 4, 10, 99999, 123456789, 999999999):
            self.assertEqual(self.refused(self.desk, Gone, f"drop {number}", number=number), [("drop", False)])
            self.assertEqual(self.refused(self.desk, Gone, f"show {number}", number=number), [])
            self.assertEqual(self.refused(self.desk, Gone, f"why {number} a", number=number), [])
        for number in (0, 10000, 999999999):
            # A page that can't be made is no deed of the store.
            self.assertEqual(self.refused(self.desk, NoNumber, f"put {number} a"), [])
            self.assertEqual(self.refused(self.desk, NoNumber, f"anew {number} -"), [])
        self.check(self.desk, ("put 9999 a", "ok"), ("anew 9999 b", "ok"), ("commit 999999999", "ok"))

    def test_texts(self):
        for thing in NO_PAGE_TEXTS:
            for row in (f"put 5 {thing}", f"anew 1 {thing}", f"put 0 {thing}", f"put 1 {thing}"):
                self.no_text(self.desk, row)
        long_text = ",".join(["abcdefghijkl"] * 120)
        self.check(self.desk, (f"put 5 {long_text}", "ok"), ("show 5", long_text), ("put 6 -", "ok"), ("show 6", "-"),
                   ("put 7 a", "ok"), ("show 7", "a"), ("anew 1 -", "ok"), ("show 1", "-"))

    def test_queries(self):
        for thing in NO_QUERY_TEXTS:
            for row in (f"find {thing}", f"best 3 {thing}", f"best 201 {thing}", f"why 1 {thing}", f"why 99 {thing}"):
                self.no_text(self.desk, row)
        for query, pages in (("a", "1"), ('"a,b"', "1"), ("a~1~b", "1"), ("b", "1,3"), ("(a,&,b)", "1"), ("(a,|,b)", "1,3"),
                             ("(b,-,a)", "3"), ('((a,|,b),-,"b,a")', "3"), ("z", "none"), ("(a,-,a)", "none"),
                             ("((((a,&,b),&,b),&,b),|,b)", "1,3")):
            self.check(self.desk, (f"find {query}", pages))
            for number in "123":
                self.check(self.desk, (f"why {number} {query}", "yes" if number in pages else "no"))

    def test_ks(self):
        self.check(self.desk, ("best 0 a", "none"), ("best 200 z", "none"))
        for k in (201, 1000, 999999999):
            self.assertEqual(self.refused(self.desk, NoSize, f"best {k} a"), [])
        self.assertNotEqual(self.desk.say("best 200 a"), "none")

    def test_picks(self):
        for thing in ("a", "1,", ",1", "1,,2", ",", "01", "0,01", "1,-", "--", "1000000000", "0,1000000000", "+1", "1.2"):
            self.no_text(self.desk, f"crash {thing}")


class AnswerTests(Case):
    def test_pages_and_their_texts(self):
        desk = Desk()
        self.check(desk, ("pages", "none"), ("hand", "none"), ("put 12 b,a", "ok"), ("put 7 -", "ok"), ("pages", "7,12"),
                   ("hand", "7,12"), ("show 12", "b,a"), ("show 7", "-"), ("seal", "yes"), ("hand", "none"),
                   ("seal", "no"), ("put 9 c", "ok"), ("pages", "7,9,12"), ("hand", "9"), ("anew 12 z", "ok"),
                   ("show 12", "z"), ("hand", "9,12"), ("drop 7", "ok"), ("pages", "9,12"), ("drop 9", "ok"),
                   ("drop 12", "ok"), ("pages", "none"), ("hand", "none"))

    def test_merges(self):
        desk = said("put 1 a", "seal", "put 2 b", "seal", "put 3 c", "seal")
        self.check(desk, ("drop 2", "ok"), ("merge 1 1", "0"), ("merge 0 2", "2"), ("merge 0 1", "2"))
        for row in ("merge 0 0", "merge 0 2", "merge 1 1", "merge 2 1", "merge 0 999999999", "merge 999999999 1"):
            self.assertEqual(self.refused(desk, NoSize, row), [("merge", False)])

    def test_refused_deeds(self):
        desk = said(*[f"put {number} a" for number in range(1, 61)])
        self.assertEqual(self.refused(desk, Taken, "put 3 b", number=3), [("put", False)])
        self.assertEqual(self.refused(desk, Full, "put 61 b", many=60), [("put", False)])
        self.assertEqual(self.refused(desk, Full, "anew 61 b", many=60), [("put", False)])
        desk = said(*[row for number in range(1, 8) for row in (f"put {number} a", "seal")], "put 8 a")
        self.assertEqual(self.refused(desk, Full, "seal", many=7), [("seal", False)])

    def test_best(self):
        desk = said("put 7 a,b,a", "put 4 a", "put 9 c")
        # N is 3, L is 5, d is 2: twice 10 / (10 + 5 + 9), twice 5 / (5 + 5 + 3).
        self.check(desk, ("best 5 a", "7=5/6,4=10/13"), ("best 1 a", "7=5/6"), ("best 0 a", "none"), ("best 9 zz", "none"))
        # A rank without a bottom: N is 1, L is 2, d is 1.
        self.check(said("put 1 a,a"), ("best 5 a", "1=1"))
        chance = random.Random(48)
        for _ in range(60):
            desk, pages = Desk(), []
            for number in chance.sample(range(1, 99), chance.randrange(12)):
                pages.append(Page(number, " ".join(chance.choices("abc", k=chance.randrange(6)))))
                desk.say(f"put {number} {str(pages[-1]).replace(' ', ',') or '-'}")
                if chance.random() < 0.2 and desk.store.sealed() < 7:
                    desk.say("seal")
            query, k = some_query(chance, "abc"), chance.randrange(5)
            text = show(query).replace(" ", ",")
            due = [f"{number}={ratio}" for number, ratio in best_plain(pages, query, k=k).told()]
            self.check(desk, (f"best {k} {text}", ",".join(due) or "none"))
            due = [str(page.number) for page in sorted(pages, key=lambda page: page.number) if matches_plainly(query, page)]
            self.check(desk, (f"find {text}", ",".join(due) or "none"))
            for page in pages:
                self.check(desk, (f"why {page.number} {text}", "yes" if matches_plainly(query, page) else "no"))

    def test_log(self):
        desk = Desk()
        self.check(desk, ("log", "none"), ("pages", "none"), ("log", "none"), ("put 1 a", "ok"), ("log", "put"),
                   ("anew 1 b", "ok"), ("log", "put,put"), ("seal", "yes"), ("seal", "no"), ("merge 0 1", "1"),
                   ("log", "put,put,seal,seal,merge"), ("drop 1", "ok"), ("log", "put,seal,seal,merge,drop"))
        for row in ("drop 1", "put 0 a", "put 5", "merge 5 1"):
            with self.assertRaises((Gone, NoNumber, NoText, NoSize)):
                desk.say(row)
        self.check(desk, ("log", "seal,merge,drop,drop!,merge!"), ("commit 9", "ok"), ("find a", "none"),
                   ("files", "h1,s1.0"), ("log", "seal,merge,drop,drop!,merge!"))


class DiskTests(Case):
    def test_commit_and_recover(self):
        desk = said("put 1 a", "seal", "put 2 b")
        self.check(desk, ("files", "none"), ("commit 99", "ok"), ("files", "h1,s1.0,s1.1"), ("drop 2", "ok"),
                   ("crash -", "ok"), ("pages", "none"), ("log", "none"), ("hand", "none"), ("files", "h1,s1.0,s1.1"),
                   ("recover", "ok"), ("pages", "1,2"), ("hand", "none"), ("log", "none"), ("show 2", "b"),
                   ("commit 99", "ok"), ("files", "h2,s1.0,s1.1"))
        self.assertEqual((desk.store.size, desk.store.sealed()), (4, 2))

    def test_recover_where_more_stand_than_may_be_put(self):
        desk = Desk()
        for at in range(3):
            pages = [Page(60 * at + number, "a") for number in range(1, 61)]
            desk.disk.write(f"s1.{at}", whole_text(segment_rows(Segment(pages))))
        desk.disk.write("h1", whole_text(["1", "4", "s1.0", "s1.1", "s1.2"]))
        self.check(desk, ("recover", "ok"))
        self.refused(desk, Full, "anew 5 b", many=120)
        self.refused(desk, Full, "put 500 b", many=120)
        self.refused(desk, Taken, "put 5 b", number=5)
        self.check(desk, ("show 5", "a"), ("hand", "none"), ("log", "put!,put!,put!"))

    def test_recover_where_nothing_was_committed(self):
        desk = said("put 1 a")
        self.assertEqual(self.refused(desk, NoFile, "recover", name="head"), [])
        desk.say("commit 1")
        self.assertEqual(self.refused(desk, NoFile, "recover", name="head"), [])

    def test_recover_where_no_head_stands(self):
        desk = said("put 1 a", "commit 3")
        self.assertEqual(desk.say("files"), "h1,s1.0")
        desk.say("crash 5")
        desk.say("put 2 b")
        self.assertEqual(self.refused(desk, Torn, "recover", name="h1"), [])
        self.check(desk, ("commit 99", "ok"), ("files", "h2,s2.0"), ("crash -", "ok"), ("recover", "ok"), ("pages", "2"))

    def test_the_first_deeds_of_a_commit(self):
        rows = ["put 1 a", "seal", "commit 99", "put 2 b", "seal", "put 3 c"]
        many = len(deeds_of(said(*rows).store, said(*rows).disk))
        self.assertEqual(many, 7)
        for count in range(many + 3):
            desk, other = said(*rows), said(*rows)
            self.check(desk, (f"commit {count}", "ok"))
            for deed in deeds_of(other.store, other.disk)[:count]:
                play(other.disk, deed)
            self.assertEqual(told(desk), told(other))
            self.assertEqual(desk.disk.waiting(), [0, 1, 2, 0, 1, 0, 1, 0, 0, 0][count])
            # The store is as it was, and so is its log.
            self.check(desk, ("pages", "1,2,3"), ("hand", "3"), ("log", "put,seal,put,seal,put"))
            self.check(desk, ("crash -", "ok"), ("recover", "ok"), ("pages", "1,2,3" if count > 4 else "1"))

    def test_a_commit_in_parts(self):
        desk = said("put 1 a", "commit 2", "put 2 b", "commit 3", "anew 2 c", "commit 1", "drop 1", "commit 99")
        self.check(desk, ("crash -", "ok"), ("recover", "ok"), ("pages", "2"), ("show 2", "c"))

    def test_crash_with_picks(self):
        desk = said("put 1 a", "commit 3")
        text = desk.disk.read("h1")
        for pick in range(len(text) + 2):
            desk = said("put 1 a", "commit 3")
            self.check(desk, (f"crash {pick}", "ok"), ("pages", "none"), ("log", "none"))
            self.check(desk, ("files", "s1.0" if pick == 0 else "h1,s1.0"))
            if pick:
                self.assertEqual(desk.disk.read("h1"), text[:pick - 1])
        desk = said("put 1 a", "seal", "put 2 b", "commit 2")
        most = [len(desk.disk.read(name)) + 1 for name in ("s1.0", "s1.1")]
        self.check(desk, (f"crash {most[0]},{most[1]}", "ok"), ("files", "s1.0,s1.1"))

    def test_wrong_picks(self):
        desk = said("put 1 a", "seal", "put 2 b", "commit 2")
        most = len(desk.disk.read("s1.0")) + 1
        for picks, at in ((str(most + 1), 0), ("0,0,0", 2), (f"{most},{most + 1}", 1), ("999999999", 0), (f"0,0,{most},9", 2)):
            self.assertEqual(self.refused(desk, NoDeed, f"crash {picks}", at=at), [])
        self.assertEqual(self.refused(Desk(), NoDeed, "crash 0", at=0), [])
        self.check(desk, ("pages", "1,2"), ("log", "put,seal,put"), (f"crash {most},0", "ok"), ("files", "s1.0"))

    def test_files(self):
        desk = Desk()
        for name in ("zz", "a.b", "h7", "0"):
            desk.disk.write(name, "")
        self.check(desk, ("files", "0,a.b,h7,zz"), ("commit 99", "ok"), ("files", "h8"))

    def test_a_new_desk(self):
        desk = Desk()
        self.assertIsInstance(desk.store, Store)
        self.assertIsInstance(desk.disk, Disk)
        self.assertEqual((desk.store.size, len(desk.store), len(desk.disk)), (4, 0, 0))
        desk.say("put 1 a")
        desk.say("crash -")
        self.assertEqual((desk.store.size, len(desk.store)), (4, 0))

    def test_two_desks_know_nothing_of_one_another(self):
        one, other = Desk(), Desk()
        one.say("put 1 a")
        one.say("commit 99")
        self.check(other, ("pages", "none"), ("files", "none"), ("log", "none"))
        other.say("put 1 b")
        self.check(one, ("show 1", "a"), ("files", "h1,s1.0"))
        self.assertEqual(one.say(row="show 1"), "a")


class NumeralTests(unittest.TestCase):
    def test_figures_without_noughts_ahead(self):
        for number in list(range(130)) + [999, 1000, 123456789]:
            self.assertEqual(number_in(str(number), 9), number)
        for text in ["", "00", "01", "010", " 1", "1 ", "-1", "+1", "1.", "a", "1234567890", "1_0", "\u0661", "\xb2", "9" * 5000]:
            self.assertIsNone(number_in(text, 9), text)
        self.assertEqual((number_in("12", 2), number_in("123", 2), number_in("0", 1)), (12, None, 0))


class QueryTextTests(Case):
    def test_rows_of_any_query(self):
        chance = random.Random(47)
        desk = said("put 1 a,b,c")
        for _ in range(200):
            query = some_query(chance, "abc")
            row = show(query).replace(" ", ",")
            self.assertEqual(read(row.replace(",", " ")), query)
            self.check(desk, (f"why 1 {row}", "yes" if matches_plainly(query, Page(1, "a b c")) else "no"))


if __name__ == "__main__":
    unittest.main()
