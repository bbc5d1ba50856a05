"""Point 4: words, texts of words, lists of words."""

import unittest

from blocksearch.errors import NoText
from blocksearch.words import is_word, text_of, words_of
from things import NO_TEXTS, NO_WORDS, WORDS


class IsWordTests(unittest.TestCase):
    def test_words(self):
        for word in WORDS + list("abcdefghijklmnopqrstuvwxyz"):
            self.assertIs(is_word(word), True, word)

    def test_things_that_are_no_words(self):
        for thing in NO_WORDS:
            self.assertIs(is_word(thing), False, thing)

    def test_each_sign_alone_and_within_a_word(self):
        for sign in ["\n"] + [chr(number) for number in range(32, 127)]:
            told = sign in "abcdefghijklmnopqrstuvwxyz"
            for text in (sign, sign + "bc", "b" + sign + "c", "bc" + sign):
                self.assertIs(is_word(text), told, text)

    def test_letters_of_other_alphabets(self):
        for text in ("\u00e9", "a\u00e9", "\u0430", "\uff41", "\u00df", "\u00aa"):
            self.assertIs(is_word(text), False, text)

    def test_twelve_and_thirteen_letters(self):
        for many in range(1, 40):
            self.assertIs(is_word("k" * many), many <= 12)

    def test_argument_by_its_name(self):
        self.assertIs(is_word(thing="a"), True)
        self.assertIs(is_word(thing=None), False)


class WordsOfTests(unittest.TestCase):
    def refused(self, text):
        with self.assertRaises(NoText):
            words_of(text)

    def test_ordinary_texts(self):
        self.assertEqual(words_of("a"), ["a"])
        self.assertEqual(words_of("a b a"), ["a", "b", "a"])
        self.assertEqual(words_of("z" * 12 + " y"), ["z" * 12, "y"])

    def test_the_empty_text_has_no_words(self):
        self.assertEqual(words_of(""), [])

    def test_blanks_at_the_wrong_places(self):
        for text in (" ", "  ", " a", "a ", "a  b", " a b", "a b ", "a   b", "a b  c"):
            self.refused(text)

    def test_signs_that_are_none_of_a_words(self):
        for text in ("A", "a B", "a,b", "a\nb", "a\n", "a\tb", "1", "a b2", "\u00e9", "a\u00a0b"):
            self.refused(text)

    def test_a_word_too_long(self):
        self.assertEqual(words_of("a " + "b" * 12), ["a", "b" * 12])
        self.refused("a " + "b" * 13)
        self.refused("b" * 13)

    def test_120_and_121_words(self):
        for word in ("a", "q" * 12):
            self.assertEqual(words_of(" ".join([word] * 120)), [word] * 120)
            self.refused(" ".join([word] * 121))
        self.refused(" ".join(["a"] * 10000))

    def test_things_that_are_no_texts(self):
        for thing in NO_TEXTS:
            self.refused(thing)

    def test_each_list_is_a_new_one(self):
        first = words_of("a b")
        first.append("c")
        first[0] = 9
        self.assertEqual(words_of("a b"), ["a", "b"])
        words_of("").append("c")
        self.assertEqual(words_of(""), [])

    def test_argument_by_its_name(self):
        self.assertEqual(words_of(text="a b"), ["a", "b"])


class TextOfTests(unittest.TestCase):
    def refused(self, thing):
        with self.assertRaises(NoText):
            text_of(thing)

    def test_ordinary_lists(self):
        self.assertEqual(text_of([]), "")
        self.assertEqual(text_of(["a"]), "a")
        self.assertEqual(text_of(["a", "b", "a"]), "a b a")

    def test_120_and_121_words(self):
        for word in ("a", "q" * 12):
            self.assertEqual(text_of([word] * 120), " ".join([word] * 120))
            self.refused([word] * 121)

    def test_things_that_are_no_lists(self):
        things = [thing for thing in NO_TEXTS if not isinstance(thing, list)]
        for thing in things + ["", "a", "a b", ("a", "b")]:
            self.refused(thing)

    def test_a_thing_that_is_no_word_at_each_place(self):
        for thing in NO_WORDS:
            for at in range(3):
                words = ["a", "b"]
                words.insert(at, thing)
                self.refused(words)
            self.refused([thing])

    def test_what_is_handed_in_is_not_changed(self):
        words = ["a", "b"]
        text_of(words)
        self.assertEqual(words, ["a", "b"])

    def test_texts_and_lists_there_and_back(self):
        for words in ([], ["a"], ["a", "bc", "a"], list("abcdefgh"), ["z" * 12] * 120):
            self.assertEqual(words_of(text_of(words)), words)

    def test_argument_by_its_name(self):
        self.assertEqual(text_of(words=["a", "b"]), "a b")


if __name__ == "__main__":
    unittest.main()
