"""Meaning: whether a query matches a page, and at which places."""

from blocksearch.errors import NoQuery
from blocksearch.queries import check_query, words_in

JOINED = ("and", "or", "but")


def matches(query, page):
    """Whether a query matches a page."""
    check_query(query)
    return is_met(query, places_by_words(query, page))


def places_of(query, page):
    """The list of the places of a word, a phrase or a near in a page."""
    check_query(query)
    if query[0] in JOINED:
        raise NoQuery("such a query has no places of its own")
    return met_places(query, places_by_words(query, page))


def places_by_words(query, page):
    """The places of each word of a query in a page."""
    return {word: page.places(word) for word in words_in(query)}


def is_met(query, places):
    """Whether a query matches where its words have such places."""
    kind = query[0]
    if kind == "and":
        return all([is_met(part, places) for part in query[1:]])
    if kind == "or":
        return any([is_met(part, places) for part in query[1:]])
    if kind == "but":
        return is_met(query[1], places) and not is_met(query[2], places)
    return len(met_places(query, places)) > 0


def met_places(query, places):
    """The list of the places of a word, a phrase or a near whose words have such places."""
    kind = query[0]
    if kind == "word":
        return list(places[query[1]])
    if kind == "phrase":
        return phrase_places([places[word] for word in query[1:]])
    return near_pairs(places[query[2]], places[query[3]], query[1])


def phrase_places(rows):
    """The places of the first word from which on the words stand one behind another, by each one's places."""
    starts = list(rows[0])
    for at in range(1, len(rows)):
        starts = [start for start in starts if start + at in rows[at]]
    return starts


def near_pairs(places, others, far):
    """The rising list of the pairs of unlike places, of two words, that are at most so far from one another."""
    return [(place, other) for place in places for other in others if 1 <= abs(place - other) <= far]
