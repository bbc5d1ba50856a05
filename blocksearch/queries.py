"""Queries: tuples that ask for words, phrases, near words, and, or, but."""

from blocksearch.errors import NoQuery
from blocksearch.wholes import is_within
from blocksearch.words import are_words

MOST_FAR = 20
MOST_DEEP = 5
MOST_ASKED = 12
MOST_PHRASED = 5
MOST_JOINED = 4


def is_query(thing):
    """Whether a thing is a query."""
    return is_built(thing, MOST_DEEP) and len(words_in(thing)) <= MOST_ASKED


def check_query(query):
    """Refuse what is no query."""
    if not is_query(query):
        raise NoQuery("this is no query")


def wanted(query):
    """The list of the words that are wanted by a query."""
    check_query(query)
    return words_in(query, only_wanted=True)


def is_built(thing, deep):
    """Whether a thing is built as a query of at most so many queries deep, of however many words."""
    if deep == 0 or not isinstance(thing, tuple) or len(thing) < 2:
        return False
    kind = thing[0]
    parts = thing[1:]
    if kind == "word":
        return len(parts) == 1 and are_words(parts)
    if kind == "phrase":
        return 2 <= len(parts) <= MOST_PHRASED and are_words(parts)
    if kind == "near":
        return len(parts) == 3 and is_within(parts[0], 1, MOST_FAR) and are_words(parts[1:])
    if kind in ("and", "or"):
        return 2 <= len(parts) <= MOST_JOINED and are_built(parts, deep - 1)
    return kind == "but" and len(parts) == 2 and are_built(parts, deep - 1)


def are_built(things, deep):
    """Whether each of several things is built as a query of at most so many queries deep."""
    return all([is_built(thing, deep) for thing in things])


def words_in(query, *, only_wanted=False):
    """The list of the words of a query, in the order in which they stand."""
    kind = query[0]
    if kind in ("word", "phrase"):
        return list(query[1:])
    if kind == "near":
        return list(query[2:])
    # What a but shuts out is not wanted.
    parts = query[1:2] if kind == "but" and only_wanted else query[1:]
    return [word for part in parts for word in words_in(part, only_wanted=only_wanted)]
