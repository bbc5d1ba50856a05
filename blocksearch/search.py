"""Searches: a shelf that is asked for what matches and for the best, with a log of the asks."""

from blocksearch.best import MANY, Best
from blocksearch.early import put_early
from blocksearch.errors import NoQueries
from blocksearch.found import met_numbers
from blocksearch.queries import check_query, is_query
from blocksearch.ranks import Figures

MOST_QUERIES = 40


class Search:
    """A shelf as it was handed in, and the asks of it."""

    def __init__(self, shelf, *, seen=None):
        self.figures = Figures(shelf)
        self.told_to = seen
        self.written = []
        self.asks = 0
        self.asks_within = 0

    def matching(self, query):
        """The rising list of the numbers of all pages that stand and match a query."""
        return self.asked(lambda: self.matching_of(query))

    def best(self, query, *, k=MANY):
        """The best of a query."""
        return self.asked(lambda: self.best_of(query, k))

    def bests(self, queries, *, k=MANY):
        """The list of the bests of a list of queries."""
        return self.asked(lambda: self.bests_of(queries, k))

    def log(self):
        """The list of what was written down of all asks."""
        return list(self.written)

    def begun(self):
        """How many asks are begun and not ended."""
        return self.asks_within

    def asked(self, answer):
        """What an ask tells, its begin and its end written down."""
        number = self.asks
        self.asks += 1
        self.asks_within += 1
        self.written.append(("begin", number))
        # Whatever is refused, and whatever the def raises, the ask ends.
        try:
            return answer()
        finally:
            self.asks_within -= 1
            self.written.append(("end", number))

    def matching_of(self, query):
        """What matches a query, within its ask."""
        check_query(query)
        return met_numbers(self.figures.parts, query)

    def best_of(self, query, k):
        """The best of a query, within its ask."""
        check_query(query)
        best = Best(k)
        put_early(best, self.figures, query, self.told_to)
        return best

    def bests_of(self, queries, k):
        """The bests of a list of queries, within its ask; each of them is an ask of its own."""
        if not isinstance(queries, list) or len(queries) > MOST_QUERIES:
            raise NoQueries(None)
        # An own list: the def may do what it will to the one that was handed in.
        return [self.listed_best(at, query, k) for at, query in enumerate(list(queries))]

    def listed_best(self, at, query, k):
        """The best of the query at a place of a list."""
        return self.asked(lambda: self.listed_best_of(at, query, k))

    def listed_best_of(self, at, query, k):
        """The best of the query at a place of a list, within its ask."""
        # Not told by catching NoQuery: what the def raises goes out as it is.
        if not is_query(query):
            raise NoQueries(at)
        return self.best_of(query, k)
