"""The best: so many numbers of pages with the greatest ratios."""

from blocksearch.errors import Held, NoSize
from blocksearch.meaning import matches
from blocksearch.pages import check_page_number, check_pages
from blocksearch.queries import check_query
from blocksearch.ranks import rank
from blocksearch.ratios import ratio_of
from blocksearch.wholes import is_within

MANY = 10
MOST = 200
MOST_RANKED = 480


class Best:
    """The k best of what was put: the greater ratio ahead, of like ones the lesser number."""

    def __init__(self, k=MANY):
        if not is_within(k, 0, MOST):
            raise NoSize("so many are not held")
        self.k = k
        self.held = []

    def __eq__(self, other):
        return isinstance(other, Best) and self.k == other.k and self.held == other.held

    def __len__(self):
        return len(self.held)

    def __repr__(self):
        return f"Best({self.k}, {self.held!r})"

    def put(self, number, ratio):
        """Put a number with a ratio, and tell whether it is held then."""
        at = self.place_for(number, ratio)
        # An own ratio: what is done to the one that was handed in changes nothing here.
        one = (number, ratio_of(ratio.top, ratio.bottom))
        held = [*self.held[:at], one, *self.held[at:]]
        self.held = held[:self.k]
        return at < self.k

    def would_hold(self, number, ratio):
        """Whether a number with a ratio would be held if it were put now."""
        return self.place_for(number, ratio) < self.k

    def told(self):
        """The list of what is held, the best ahead."""
        return list(self.held)

    def floor(self):
        """The last one that is held, if all places are taken, else None."""
        return self.held[-1] if self.held and len(self.held) == self.k else None

    def place_for(self, number, ratio):
        """The place that a number with a ratio would have, were there room for all."""
        check_page_number(number)
        if number in [held for held, worth in self.held]:
            raise Held(number)
        return len([one for one in self.held if not is_ahead(number, ratio, one)])


def is_ahead(number, ratio, held):
    """Whether a number with a ratio goes ahead of a tuple that is held."""
    held_number, held_ratio = held
    return held_ratio.is_less(ratio) or (held_ratio == ratio and number < held_number)


def best_plain(pages, query, *, k=MANY):
    """The best of all pages of a list that match a query."""
    check_pages(pages, least=0, most=MOST_RANKED)
    check_query(query)
    best = Best(k)
    figures = PageFigures(pages)
    for page in pages:
        if matches(query, page):
            best.put(page.number, rank(figures, query, page))
    return best


class PageFigures:
    """The figures of pages, as if all of them stood on a shelf."""

    def __init__(self, pages):
        self.pages_in_all = len(pages)
        self.words_in_all = sum([len(page) for page in pages])
        self.counted = {}
        for page in pages:
            for word in sorted(set(page.words())):
                self.counted[word] = self.counted.get(word, 0) + 1

    def holders(self, word):
        """How many of the pages have a word."""
        return self.counted.get(word, 0)
