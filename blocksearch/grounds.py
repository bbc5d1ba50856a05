"""Grounds: papers that tell why a page matches a query, or why it doesn't."""

from blocksearch.meaning import is_met, met_places, places_by_words
from blocksearch.queries import check_query


def paper_of(query, page):
    """The first paper for a page and a query."""
    check_query(query)
    places = places_by_words(query, page)
    if is_met(query, places):
        return ("yes", query, yes_ground(query, places))
    return ("no", query, no_ground(query, places))


def yes_ground(query, places):
    """The first ground why a query matches where its words have such places."""
    kind = query[0]
    if kind == "and":
        grounds = [yes_ground(part, places) for part in query[1:]]
        return ("all", *grounds)
    if kind == "or":
        which = first_that(query[1:], places, True)
        return ("some", which, yes_ground(query[which + 1], places))
    if kind == "but":
        return ("but", yes_ground(query[1], places), no_ground(query[2], places))
    first = met_places(query, places)[0]
    return ("at", *first) if kind == "near" else ("at", first)


def no_ground(query, places):
    """The first ground why a query doesn't match where its words have such places."""
    kind = query[0]
    if kind == "and":
        which = first_that(query[1:], places, False)
        return ("lacks", which, no_ground(query[which + 1], places))
    if kind == "or":
        grounds = [no_ground(part, places) for part in query[1:]]
        return ("all", *grounds)
    if kind != "but":
        return ("none",)
    if not is_met(query[1], places):
        return ("first", no_ground(query[1], places))
    return ("second", yes_ground(query[2], places))


def first_that(parts, places, met):
    """Which one of several queries is the first that matches, or that doesn't."""
    return [is_met(part, places) for part in parts].index(met)
