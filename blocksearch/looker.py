"""The looker: whether papers of pages hold, and whether moves are those of a merge."""

from blocksearch.meaning import is_met, met_places, places_by_words
from blocksearch.queries import is_query
from blocksearch.segments import pages_of
from blocksearch.shelves import standing_slots
from blocksearch.wholes import is_whole, is_within


def holds(paper, page):
    """Whether a thing is a paper that holds for a page."""
    if not isinstance(paper, tuple) or len(paper) != 3 or not is_query(paper[1]):
        return False
    word, query, ground = paper
    places = places_by_words(query, page)
    if word == "yes":
        return is_yes(query, ground, places)
    return word == "no" and is_no(query, ground, places)


def is_ground(thing, word, many):
    """Whether a thing is a tuple of so many things, the first one a word."""
    return isinstance(thing, tuple) and len(thing) == many and thing[0] == word


def is_yes(query, ground, places):
    """Whether a ground tells rightly why a query matches where its words have such places."""
    kind = query[0]
    if kind == "and":
        return is_ground(ground, "all", len(query)) and all(
            [is_yes(part, one, places) for part, one in zip(query[1:], ground[1:])])
    if kind == "or":
        return is_choice(ground, "some", query) and is_yes(query[ground[1] + 1], ground[2], places)
    if kind == "but":
        return is_ground(ground, "but", 3) and (
            is_yes(query[1], ground[1], places) and is_no(query[2], ground[2], places))
    return is_place(query, ground, places)


def is_no(query, ground, places):
    """Whether a ground tells rightly why a query doesn't match where its words have such places."""
    kind = query[0]
    if kind == "and":
        return is_choice(ground, "lacks", query) and is_no(query[ground[1] + 1], ground[2], places)
    if kind == "or":
        return is_ground(ground, "all", len(query)) and all(
            [is_no(part, one, places) for part, one in zip(query[1:], ground[1:])])
    if kind != "but":
        return is_ground(ground, "none", 1) and not is_met(query, places)
    if is_ground(ground, "first", 2):
        return is_no(query[1], ground[1], places)
    return is_ground(ground, "second", 2) and is_yes(query[2], ground[1], places)


def is_choice(ground, word, query):
    """Whether a ground chooses one of the queries of an and or an or."""
    return is_ground(ground, word, 3) and is_within(ground[1], 0, len(query) - 2)


def is_place(query, ground, places):
    """Whether a ground tells a place, or two of a near, at which a word, a phrase or a near stands."""
    is_near = query[0] == "near"
    if not is_ground(ground, "at", 3 if is_near else 2) or not all([is_whole(one) for one in ground[1:]]):
        return False
    return (ground[1:] if is_near else ground[1]) in met_places(query, places)


def are_moves(moves, shelf, segment):
    """Whether a thing are the moves of all pages that stand on a shelf to the slots of a segment."""
    stood = [(at, slot) for at, (part, gone) in enumerate(shelf) for slot in standing_slots(part, gone)]
    if segment is None:
        return moves == [] and stood == []
    if not isinstance(moves, list) or not all([is_move(one) for one in moves]):
        return False
    if [move[:2] for move in moves] != stood or sorted([move[2] for move in moves]) != list(range(len(segment))):
        return False
    pages = [pages_of(part) for part, gone in shelf]
    new_pages = pages_of(segment)
    return all([pages[at][slot] == new_pages[new] for at, slot, new in moves])


def is_move(thing):
    """Whether a thing is a tuple of three whole numbers."""
    return isinstance(thing, tuple) and len(thing) == 3 and all([is_whole(one) for one in thing])
