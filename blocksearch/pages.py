"""Pages: a number and a text of words."""

from blocksearch.errors import NoNumber, NoPages
from blocksearch.wholes import is_within
from blocksearch.words import check_word, words_of

MOST_NUMBER = 9999


class Page:
    """A page: its number, and its words in turn."""

    def __init__(self, number, text=""):
        check_page_number(number)
        self.number = number
        self.in_turn = tuple(words_of(text))

    def __eq__(self, other):
        return isinstance(other, Page) and self.number == other.number and self.in_turn == other.in_turn

    def __len__(self):
        return len(self.in_turn)

    def __str__(self):
        return " ".join(self.in_turn)

    def __repr__(self):
        return f"Page({self.number}, {str(self)!r})"

    def words(self):
        """The list of the page's words."""
        return list(self.in_turn)

    def places(self, word):
        """The rising list of the places at which a word stands."""
        check_word(word)
        return [at for at, one in enumerate(self.in_turn) if one == word]

    def often(self, word):
        """How often a word stands in the page."""
        return len(self.places(word))


def check_page_number(number):
    """Refuse what is no number of a page."""
    if not is_within(number, 1, MOST_NUMBER):
        raise NoNumber("this is no number of a page")


def check_pages(pages, *, least, most):
    """Refuse what is no list of pages of unlike numbers, at least and at most so many."""
    if not isinstance(pages, list) or not least <= len(pages) <= most:
        raise NoPages(None)
    ahead = set()
    for at, page in enumerate(pages):
        if not isinstance(page, Page) or page.number in ahead:
            raise NoPages(at)
        ahead.add(page.number)
