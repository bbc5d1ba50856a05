"""Desks: a store and a disk that are told rows of text, and answer texts."""

from blocksearch.commits import deeds_of, play, recovered
from blocksearch.disk import Disk
from blocksearch.errors import NoQueryText, NoText
from blocksearch.grounds import paper_of
from blocksearch.numerals import number_in
from blocksearch.pages import Page
from blocksearch.querytexts import read
from blocksearch.rows import SIZE
from blocksearch.search import Search
from blocksearch.store import Store
from blocksearch.words import words_of

MOST_FIGURES = 9


def put_page(desk, number, text):
    """Put a page."""
    desk.store.put(Page(number, text))
    return "ok"


def put_page_anew(desk, number, text):
    """Put a page anew."""
    desk.store.put(Page(number, text), anew=True)
    return "ok"


def drop_page(desk, number):
    """Drop a page."""
    desk.store.drop(number)
    return "ok"


def seal_hand(desk):
    """Seal the pages in hand."""
    return "yes" if desk.store.seal() else "no"


def merge_segments(desk, at, many):
    """Merge segments, and tell how many pages moved."""
    return str(len(desk.store.merge(at=at, many=many)))


def commit_some(desk, many):
    """Do the first so many deeds of a commit."""
    for deed in deeds_of(desk.store, desk.disk)[:many]:
        play(desk.disk, deed)
    return "ok"


def crash_disk(desk, picks):
    """Let the disk crash; what the store had is lost."""
    desk.disk.crash(picks=picks)
    desk.store = Store(SIZE)
    return "ok"


def recover_store(desk):
    """Take the recovered store."""
    desk.store = recovered(desk.disk)
    return "ok"


def tell_pages(desk):
    """All numbers that stand."""
    return listed([str(number) for number in desk.store.numbers()])


def tell_hand(desk):
    """The numbers in hand."""
    return listed([str(number) for number in desk.store.in_hand()])


def tell_found(desk, query):
    """The numbers that match a query."""
    return listed([str(number) for number in Search(desk.store.shelf()).matching(query)])


def tell_best(desk, many, query):
    """The best of a query, each with its rank."""
    best = Search(desk.store.shelf()).best(query, k=many)
    return listed([f"{number}={ratio}" for number, ratio in best.told()])


def tell_files(desk):
    """The names of all files."""
    return listed(desk.disk.names())


def tell_log(desk):
    """The last deeds of the store."""
    return listed([word if done else word + "!" for word, done in desk.store.log()])


def show_page(desk, number):
    """The text of a page."""
    return str(desk.store.page(number)).replace(" ", ",") or "-"


def tell_why(desk, number, query):
    """Whether a page matches a query."""
    return paper_of(query, desk.store.page(number))[0]


def listed(texts):
    """The answer that lists texts."""
    return ",".join(texts) if texts else "none"


def number_due(word):
    """The number that a word of a row tells."""
    number = number_in(word, MOST_FIGURES)
    if number is None:
        raise NoText("this is no number")
    return number


def text_due(word):
    """The page's text that a word of a row tells."""
    text = "" if word == "-" else word.replace(",", " ")
    words_of(text)
    return text


def query_due(word):
    """The query that a word of a row tells."""
    try:
        return read(word.replace(",", " "))
    except NoQueryText:
        raise NoText("this is no query's text")


def picks_due(word):
    """The picks that a word of a row tells."""
    return [] if word == "-" else [number_due(one) for one in word.split(",")]


DEEDS = {
    "put": put_page, "anew": put_page_anew, "drop": drop_page, "seal": seal_hand, "merge": merge_segments,
    "commit": commit_some, "crash": crash_disk, "recover": recover_store, "pages": tell_pages, "hand": tell_hand,
    "find": tell_found, "best": tell_best, "files": tell_files, "log": tell_log, "show": show_page, "why": tell_why,
}
# What is due behind the first word of a row.
DUE = {
    "put": ("N", "TEXT"), "anew": ("N", "TEXT"), "drop": ("N",), "seal": (), "merge": ("N", "N"),
    "commit": ("N",), "crash": ("PICKS",), "recover": (), "pages": (), "hand": (),
    "find": ("QUERY",), "best": ("N", "QUERY"), "files": (), "log": (), "show": ("N",), "why": ("N", "QUERY"),
}
READERS = {"N": number_due, "TEXT": text_due, "QUERY": query_due, "PICKS": picks_due}


class Desk:
    """A store and a disk."""

    def __init__(self):
        self.store = Store(SIZE)
        self.disk = Disk()

    def say(self, row):
        """The answer to a row of text."""
        first, *rest = words_in_row(row)
        deed = DEEDS[first]
        things = [read_due(kind, word) for kind, word in zip(DUE[first], rest)]
        return deed(self, *things)


def words_in_row(row):
    """The words of a row, as many as are due behind its first one."""
    if not isinstance(row, str):
        raise NoText("this is no text")
    words = row.split(" ")
    if "" in words or words[0] not in DUE or len(words) != len(DUE[words[0]]) + 1:
        raise NoText("this is no row for a desk")
    return words


def read_due(kind, word):
    """What a word of a row tells where a thing of a kind is due."""
    reader = READERS[kind]
    return reader(word)
