"""Words, and texts of words with one blank between each two."""

from blocksearch.errors import NoText, NoWord

MOST_LETTERS = 12
MOST_WORDS = 120


def is_word(thing):
    """Whether a thing is a text of one to twelve letters a to z."""
    if not isinstance(thing, str) or not 1 <= len(thing) <= MOST_LETTERS:
        return False
    return all(["a" <= sign <= "z" for sign in thing])


def are_words(things):
    """Whether each of several things is a word."""
    return all([is_word(thing) for thing in things])


def check_word(word):
    """Refuse what is no word."""
    if not is_word(word):
        raise NoWord("this is no word")


def words_of(text):
    """The list of the words of a text."""
    if not isinstance(text, str):
        raise NoText("this is no text")
    # Splitting the empty text would tell one word without letters.
    words = text.split(" ") if text else []
    check_words(words)
    return words


def text_of(words):
    """The text of a list of words."""
    if not isinstance(words, list):
        raise NoText("this is no list")
    check_words(words)
    return " ".join(words)


def check_words(words):
    """Refuse a list with too many things, or with one that is no word."""
    if len(words) > MOST_WORDS:
        raise NoText("these are too many words")
    if not are_words(words):
        raise NoText("one of these is no word")
