"""Point 30: the search."""

import inspect
import random
import unittest

from blocksearch.best import Best, best_plain
from blocksearch.early import best_early
from blocksearch.errors import NoQueries, NoQuery, NoShelf, NoSize
from blocksearch.found import matching_numbers
from blocksearch.pages import Page
from blocksearch.search import Search
from blocksearch.segments import Segment
from plain import matches_plainly, some_query, some_shelf
from things import NO_QUERIES, NO_TEXTS, NO_WHOLES

A, B, C = [("word", letter) for letter in "abc"]
ONE = Segment([Page(10, "c"), Page(20, "b"), Page(30, "a b a"), Page(40, "a")], size=2)
OTHER = Segment([Page(15, "a a a"), Page(25, "b"), Page(30, "a a")], size=1)
WRONG_KS = NO_WHOLES + [-1, 201, 10 ** 60]
NO_LISTS = [thing for thing in NO_TEXTS if not isinstance(thing, list)] + ["", "ab", (A, B), A]


class Stop(Exception):
    pass


def a_shelf():
    return [(ONE, [3]), (OTHER, [2])]


def many_asks(seed, many):
    chance = random.Random(seed)
    for _ in range(many):
        shelf, stands = some_shelf(chance, letters=chance.choice(["ab", "abc", "abcdef"]))
        yield chance, shelf, stands, some_query(chance, "abc"), chance.choice([0, 1, 2, 3, 10, 200])


def rows(*numbers):
    """A log: a number begins the ask of that number, -1 ends 0, -2 ends 1, and so on."""
    return [("begin", number) if number >= 0 else ("end", -number - 1) for number in numbers]


class AskTests(unittest.TestCase):
    def test_matching_is_what_rows_tell(self):
        for chance, shelf, stands, query, k in many_asks(1, 150):
            search = Search(shelf)
            due = sorted(page.number for page in stands if matches_plainly(query, page))
            self.assertEqual(search.matching(query), due)
            self.assertEqual(search.matching(query), matching_numbers(shelf, query))

    def test_best_is_the_plain_ways(self):
        for chance, shelf, stands, query, k in many_asks(2, 200):
            search = Search(shelf)
            told = search.best(query, k=k)
            self.assertIsInstance(told, Best)
            self.assertEqual(told, best_plain(stands, query, k=k))
            self.assertEqual(search.best(query), best_plain(stands, query))

    def test_bests_of_many_queries(self):
        for chance, shelf, stands, query, k in many_asks(3, 60):
            queries = [some_query(chance, "abc") for _ in range(chance.randrange(5))]
            told = Search(shelf).bests(queries, k=k)
            self.assertEqual(told, [best_plain(stands, one, k=k) for one in queries])
            self.assertEqual(Search(shelf).bests(queries), [best_plain(stands, one) for one in queries])

    def test_bests_of_none_of_40_and_of_41(self):
        search = Search(a_shelf())
        self.assertEqual(search.bests([]), [])
        self.assertEqual(search.bests([A] * 40), [search.best(A)] * 40)
        for queries in ([A] * 41, [None] * 41, [A] * 100):
            with self.assertRaises(NoQueries) as caught:
                search.bests(queries)
            self.assertIsNone(caught.exception.at)

    def test_each_best_is_the_askers_own(self):
        search = Search(a_shelf())
        due = search.best(A)
        one, other = search.bests([A, A])
        one.put(1, one.told()[0][1])
        self.assertEqual(other, due)
        search.best(A).put(1, one.told()[0][1])
        self.assertEqual(search.best(A), due)
        search.bests([A]).clear()
        search.matching(A).clear()
        self.assertEqual((search.bests([A]), search.matching(A)), ([due], [15, 30]))

    def test_the_empty_shelf(self):
        search = Search([])
        self.assertEqual((search.matching(A), search.best(A), search.bests([A, B], k=3)), ([], Best(), [Best(3)] * 2))

    def test_lists_changed_behind_the_call(self):
        shelf = a_shelf()
        search = Search(shelf)
        due = search.matching(A), search.best(A), search.bests([A, B])
        shelf[0][1].append(0)
        shelf[1][1].clear()
        shelf.pop()
        self.assertEqual((search.matching(A), search.best(A), search.bests([A, B])), due)
        shelf.clear()
        self.assertEqual((search.matching(A), search.best(A), search.bests([A, B])), due)

    def test_nothing_that_is_handed_in_is_changed(self):
        shelf, queries = a_shelf(), [A, B]
        search = Search(shelf)
        search.bests(queries)
        search.matching(A)
        self.assertEqual((shelf, queries), (a_shelf(), [A, B]))

    def test_queries_changed_by_the_def(self):
        queries = [A, B, A]
        search = Search(a_shelf(), seen=lambda number: queries.clear())
        self.assertEqual(search.bests(queries), Search(a_shelf()).bests([A, B, A]))
        queries = [A, B]
        search = Search(a_shelf(), seen=lambda number: queries.append(None))
        self.assertEqual(len(search.bests(queries)), 2)

    def test_two_searches_know_nothing_of_one_another(self):
        one, other = Search(a_shelf()), Search([])
        one.best(A)
        self.assertEqual((other.log(), other.begun(), other.matching(A)), ([], 0, []))
        self.assertEqual((one.log(), other.log()), (rows(0, -1), rows(0, -1)))


class RefusalTests(unittest.TestCase):
    def setUp(self):
        self.called = []
        self.search = Search(a_shelf(), seen=self.called.append)

    def refused(self, kind, ask, *log):
        """Whatever is refused, each begin has its end."""
        search = Search(a_shelf())
        with self.assertRaises(kind) as caught:
            ask(search)
        self.assertEqual(search.log(), rows(*log))
        self.assertEqual(search.begun(), 0)
        return caught.exception

    def test_what_is_no_shelf(self):
        for shelf, at in ((None, None), ((), None), ([None], 0), ([(ONE, []), (OTHER, [3])], 1), ([(ONE, [])] * 9, None),
                          ([(ONE, []), (OTHER, [])], 1), ("", None), ([[ONE, []]], 0)):
            with self.assertRaises(NoShelf) as caught:
                Search(shelf, seen=None)
            self.assertEqual(caught.exception.at, at)

    def test_what_is_no_query(self):
        for thing in NO_QUERIES:
            self.refused(NoQuery, lambda search: search.matching(thing), 0, -1)
            for k in (10, None, 201):
                self.refused(NoQuery, lambda search: search.best(thing, k=k), 0, -1)

    def test_what_is_no_k(self):
        for k in WRONG_KS:
            self.refused(NoSize, lambda search: search.best(A, k=k), 0, -1)

    def test_what_is_no_list_of_queries(self):
        for thing in NO_LISTS:
            for k in (10, None):
                error = self.refused(NoQueries, lambda search: search.bests(thing, k=k), 0, -1)
                self.assertIsNone(error.at)

    def test_a_thing_that_is_no_query_at_each_place(self):
        for thing in NO_QUERIES:
            for at in range(4):
                queries = [A, B, C]
                queries.insert(at, thing)
                inner = [number for one in range(1, at + 2) for number in (one, -one - 1)]
                error = self.refused(NoQueries, lambda search: search.bests(queries), 0, *inner, -1)
                self.assertEqual(error.at, at)

    def test_those_ahead_were_asked(self):
        with self.assertRaises(NoQueries) as caught:
            self.search.bests([A, None, B])
        self.assertEqual(caught.exception.at, 1)
        due = []
        best_early(a_shelf(), A, seen=due.append)
        self.assertEqual(self.called, due)
        self.assertGreater(len(due), 0)

    def test_the_first_wrong_one_tells(self):
        self.assertEqual(self.refused(NoQueries, lambda search: search.bests([A, None, None]), 0, 1, -2, 2, -3, -1).at, 1)

    def test_a_k_that_is_none(self):
        for k in WRONG_KS:
            self.assertEqual(self.search.bests([], k=k), [])
            self.refused(NoSize, lambda search: search.bests([A], k=k), 0, 1, -2, -1)
            # A wrong first query tells ahead of k; a wrong later one is not come to.
            self.assertEqual(self.refused(NoQueries, lambda search: search.bests([None, A], k=k), 0, 1, -2, -1).at, 0)
            self.refused(NoSize, lambda search: search.bests([A, None], k=k), 0, 1, -2, -1)
        self.assertEqual(self.called, [])

    def test_ks_at_the_edges(self):
        for k in (0, 1, 200):
            self.assertEqual(self.search.best(A, k=k).k, k)
            self.assertEqual([best.k for best in self.search.bests([A, B], k=k)], [k, k])

    def test_arguments(self):
        self.assertEqual(self.search.matching(query=A), [15, 30])
        self.assertEqual(self.search.best(query=A, k=1), self.search.bests(queries=[A], k=1)[0])
        for ask, name in ((Search, "seen"), (Search.best, "k"), (Search.bests, "k")):
            self.assertEqual(inspect.signature(ask).parameters[name].kind, inspect.Parameter.KEYWORD_ONLY)
        self.assertEqual(Search(shelf=a_shelf()).matching(A), [15, 30])


class LogTests(unittest.TestCase):
    def test_one_row_behind_another(self):
        search = Search(a_shelf())
        self.assertEqual((search.log(), search.begun()), ([], 0))
        search.matching(A)
        self.assertEqual(search.log(), rows(0, -1))
        search.best(A)
        self.assertEqual(search.log(), rows(0, -1, 1, -2))
        search.bests([A, B])
        self.assertEqual(search.log(), rows(0, -1, 1, -2, 2, 3, -4, 4, -5, -3))
        search.bests([])
        self.assertEqual(search.log()[-2:], rows(5, -6))
        self.assertEqual(search.begun(), 0)

    def test_neither_the_log_nor_begun_is_an_ask(self):
        search = Search(a_shelf())
        for _ in range(3):
            self.assertEqual((search.log(), search.begun()), ([], 0))

    def test_refused_asks_have_numbers_too(self):
        search = Search(a_shelf())
        for ask in (lambda: search.matching(None), lambda: search.best(None), lambda: search.best(A, k=None),
                    lambda: search.bests(None), lambda: search.bests([None])):
            with self.assertRaises((NoQuery, NoSize, NoQueries)):
                ask()
        search.matching(A)
        self.assertEqual(search.log(), rows(0, -1, 1, -2, 2, -3, 3, -4, 4, 5, -6, -5, 6, -7))

    def test_the_told_log_is_the_askers_own(self):
        search = Search(a_shelf())
        search.best(A)
        told = search.log()
        told.append(None)
        told[0] = None
        self.assertEqual(search.log(), rows(0, -1))
        search.best(A)
        self.assertEqual(told, [None, ("end", 0), None])


class DefTests(unittest.TestCase):
    def test_it_is_called_as_in_the_early_way(self):
        for chance, shelf, stands, query, k in many_asks(4, 80):
            called, due = [], []
            search = Search(shelf, seen=called.append)
            search.best(query, k=k)
            best_early(shelf, query, k=k, seen=due.append)
            self.assertEqual(called, due)
            search.bests([query, query], k=k)
            self.assertEqual(called, due * 3)

    def test_it_is_not_called_for_what_matches(self):
        called = []
        Search(a_shelf(), seen=called.append).matching(A)
        self.assertEqual(called, [])

    def test_begun_within_the_def(self):
        counts, logs = [], []

        def look(number):
            counts.append(search.begun())
            logs.append(search.log())

        search = Search(a_shelf(), seen=look)
        search.best(A)
        self.assertEqual((set(counts), logs[0]), ({1}, rows(0)))
        counts.clear()
        search.bests([A, B])
        self.assertEqual(set(counts), {2})
        self.assertEqual(logs[-1], rows(0, -1, 1, 2, -3, 3))
        self.assertEqual(search.begun(), 0)

    def test_a_def_that_asks(self):
        counts, told = [], []

        def ask(number):
            counts.append(search.begun())
            if len(counts) == 1:
                told.append(search.bests([A], k=1))
                told.append(search.matching(A))
                counts.append(search.begun())

        search = Search(a_shelf(), seen=ask)
        best = search.best(A)
        self.assertEqual(best, Search(a_shelf()).best(A))
        self.assertEqual(told, [Search(a_shelf()).bests([A], k=1), [15, 30]])
        self.assertEqual((counts[0], counts[1], counts[-1]), (1, 3, 1))
        self.assertEqual(search.log(), rows(0, 1, 2, -3, -2, 3, -4, -1))
        self.assertEqual(search.begun(), 0)

    def test_what_it_raises_goes_out(self):
        for error in (Stop("here"), NoQuery("from the def"), NoSize("from the def"), NoQueries(7), KeyError(1)):
            def stop(number):
                raise error

            search = Search(a_shelf(), seen=stop)
            due = []
            for ask, log in ((lambda: search.best(A), rows(0, -1)), (lambda: search.bests([A, B]), rows(1, 2, -3, -2))):
                with self.assertRaises(type(error)) as caught:
                    ask()
                due += log
                self.assertIs(caught.exception, error)
                self.assertEqual((search.log(), search.begun()), (due, 0))
            self.assertEqual(search.matching(A), [15, 30])

    def test_the_log_behind_what_it_raised(self):
        def stop(number):
            raise Stop(number)

        search = Search(a_shelf(), seen=stop)
        with self.assertRaises(Stop):
            search.bests([("word", "zz"), A, B])
        self.assertEqual(search.log(), rows(0, 1, -2, 2, -3, -1))
        with self.assertRaises(Stop):
            search.best(A)
        self.assertEqual(search.log()[6:], rows(3, -4))
        self.assertEqual(search.begun(), 0)

    def test_a_refused_ask_within_the_def(self):
        def ask(number):
            if search.begun() == 1:
                with self.assertRaises(NoQuery):
                    search.best(None)
                self.assertEqual(search.begun(), 1)

        search = Search(a_shelf(), seen=ask)
        self.assertEqual(search.best(A, k=1), Search(a_shelf()).best(A, k=1))
        self.assertEqual(search.log()[:3], rows(0, 1, -2))
        self.assertEqual((search.log()[-1], search.begun()), (("end", 0), 0))


if __name__ == "__main__":
    unittest.main()
