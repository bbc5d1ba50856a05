"""Point 5: pages."""

import unittest

from blocksearch.errors import NoNumber, NoText, NoWord
from blocksearch.pages import Page
from things import NO_TEXTS, NO_WHOLES, NO_WORDS

WRONG_NUMBERS = NO_WHOLES + [0, -1, -7, 10000, 10001, 10 ** 399, -10 ** 399]
WRONG_TEXTS = NO_TEXTS + [" ", " a", "a ", "a  b", "A", "a\n", "b" * 13, " ".join(["a"] * 121)]


class MakingTests(unittest.TestCase):
    def test_numbers_and_texts(self):
        for number in (1, 2, 7, 9998, 9999):
            for text in ("", "a", "a b a", " ".join(["a"] * 120), "q" * 12):
                page = Page(number, text)
                self.assertEqual(page.number, number)
                self.assertEqual(str(page), text)
                self.assertEqual(vars(page)["number"], number)

    def test_the_text_is_empty_if_none_is_handed_in(self):
        self.assertEqual(Page(7), Page(7, ""))
        self.assertEqual(Page(7).words(), [])

    def test_wrong_numbers(self):
        for number in WRONG_NUMBERS:
            with self.assertRaises(NoNumber):
                Page(number, "a")
            with self.assertRaises(NoNumber):
                Page(number)

    def test_wrong_texts(self):
        for text in WRONG_TEXTS:
            with self.assertRaises(NoText):
                Page(7, text)

    def test_the_number_is_looked_at_first(self):
        for number in WRONG_NUMBERS:
            for text in WRONG_TEXTS:
                with self.assertRaises(NoNumber):
                    Page(number, text)
                with self.assertRaises(NoNumber):
                    Page(text=text, number=number)

    def test_arguments_by_their_names(self):
        page = Page(text="a b a", number=7)
        self.assertEqual(page, Page(7, "a b a"))
        self.assertEqual(Page(number=7), Page(7))
        self.assertEqual(page.places(word="a"), [0, 2])
        self.assertEqual(page.often(word="a"), 2)


class AskingTests(unittest.TestCase):
    def test_words(self):
        self.assertEqual(Page(7, "a b a").words(), ["a", "b", "a"])
        self.assertEqual(Page(7, "").words(), [])

    def test_places_and_how_often(self):
        page = Page(7, "a b a ab a b")
        for word, places in (("a", [0, 2, 4]), ("b", [1, 5]), ("ab", [3]), ("c", []), ("q" * 12, [])):
            self.assertEqual(page.places(word), places)
            self.assertEqual(page.often(word), len(places))
        self.assertEqual(Page(7).places("a"), [])
        self.assertEqual(Page(7).often("a"), 0)

    def test_the_last_of_120_places(self):
        page = Page(9999, " ".join(["a"] * 119 + ["b"]))
        self.assertEqual(page.places("a"), list(range(119)))
        self.assertEqual(page.places("b"), [119])
        self.assertEqual(page.often("a"), 119)

    def test_what_is_no_word_is_refused(self):
        for page in (Page(7, "a b a"), Page(7)):
            for thing in NO_WORDS:
                with self.assertRaises(NoWord):
                    page.places(thing)
                with self.assertRaises(NoWord):
                    page.often(thing)

    def test_each_list_is_the_askers_own(self):
        page = Page(7, "a b a")
        words = page.words()
        words[0] = "z"
        words.clear()
        places = page.places("a")
        places.append(99)
        self.assertEqual(page.words(), ["a", "b", "a"])
        self.assertEqual(page.places("a"), [0, 2])
        self.assertEqual(page.often("a"), 2)
        self.assertEqual(str(page), "a b a")
        self.assertEqual(len(page), 3)

    def test_asking_changes_nothing(self):
        page = Page(7, "a b a")
        with self.assertRaises(NoWord):
            page.places("A")
        self.assertEqual(page, Page(7, "a b a"))

    def test_methods_stand_in_the_class_itself(self):
        for name in ("words", "places", "often", "__eq__", "__len__", "__str__", "__repr__"):
            self.assertIn(name, vars(Page))


class ShownTests(unittest.TestCase):
    def test_equal_pages(self):
        one, other = Page(7, "a b a"), Page(7, "a b a")
        self.assertIs(one == other, True)
        self.assertIs(other == one, True)
        self.assertIs(one != other, False)
        self.assertIs(one == one, True)

    def test_unlike_pages(self):
        one = Page(7, "a b a")
        for other in (Page(8, "a b a"), Page(7, "a b"), Page(7, "a a b"), Page(7, "aba"), Page(7)):
            self.assertIs(one == other, False)
            self.assertIs(other == one, False)
            self.assertIs(one != other, True)

    def test_a_page_equals_nothing_else(self):
        class Alike:
            def __init__(self, page):
                vars(self).update(vars(page))

        for page in (Page(7, "a b a"), Page(1)):
            others = NO_TEXTS + NO_WORDS + [page.number, str(page), repr(page), page.words(),
                                            (page.number, str(page)), {}, object(), Alike(page)]
            for other in others:
                self.assertIs(page == other, False)
                self.assertIs(other == page, False)
                self.assertIs(page != other, True)
                self.assertIs(other != page, True)

    def test_len(self):
        for many in (0, 1, 2, 119, 120):
            self.assertEqual(len(Page(7, " ".join(["ab"] * many))), many)

    def test_str_and_repr(self):
        self.assertEqual(str(Page(7, "a b a")), "a b a")
        self.assertEqual(repr(Page(7, "a b a")), "Page(7, 'a b a')")
        self.assertEqual(str(Page(9999)), "")
        self.assertEqual(repr(Page(9999)), "Page(9999, '')")


if __name__ == "__main__":
    unittest.main()
