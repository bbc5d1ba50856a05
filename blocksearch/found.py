"""What matches, found by rows alone."""

from blocksearch.errors import NoSize
from blocksearch.meaning import near_pairs, phrase_places
from blocksearch.queries import MOST_FAR, MOST_PHRASED, check_query
from blocksearch.rows import Row
from blocksearch.shelves import check_shelf
from blocksearch.walkers import Walker, common, places_at, slots_of
from blocksearch.wholes import is_within


def phrased(rows):
    """The list of the entries at which a phrase stands, by the rows of its words."""
    if not are_phrased(rows):
        raise NoSize("these are no two to five rows")
    told = []
    for slot, places in common_places(rows):
        starts = phrase_places(places)
        if starts:
            told.append((slot, tuple(starts)))
    return told


def are_phrased(thing):
    """Whether a thing is a list of as many rows as a phrase may have words."""
    if not isinstance(thing, list) or not 2 <= len(thing) <= MOST_PHRASED:
        return False
    return all([isinstance(row, Row) for row in thing])


def neared(row, other, *, far=1):
    """The list of the slots at which two words stand near one another, each with the pairs of their places."""
    if not is_within(far, 1, MOST_FAR):
        raise NoSize("so far is no near")
    told = []
    for slot, (places, others) in common_places([row, other]):
        pairs = near_pairs(places, others, far)
        if pairs:
            told.append((slot, tuple(pairs)))
    return told


def common_places(rows):
    """Each slot that all rows have, with the places that each row has there."""
    walkers = [Walker(row) for row in rows]
    return [(slot, [places_at(walker, slot) for walker in walkers]) for slot in common(rows)]


def matching_slots(segment, query):
    """The rising list of the slots of a segment at which a page matches a query."""
    check_query(query)
    return met_slots(segment, query)


def met_slots(segment, query):
    """The rising list of the slots of a segment at which a query, or a part of one, matches."""
    kind = query[0]
    if kind == "word":
        return slots_of(segment.row(query[1]))
    if kind == "phrase":
        return [slot for slot, starts in phrased([segment.row(word) for word in query[1:]])]
    if kind == "near":
        return [slot for slot, pairs in neared(segment.row(query[2]), segment.row(query[3]), far=query[1])]
    return joined_slots(kind, [met_slots(segment, part) for part in query[1:]])


def joined_slots(kind, rows):
    """The rising list of the slots at which an and, an or or a but matches, by the slots of its queries."""
    if kind == "or":
        return sorted({slot for row in rows for slot in row})
    if kind == "and":
        return [slot for slot in rows[0] if all([slot in row for row in rows])]
    return [slot for slot in rows[0] if slot not in rows[1]]


def matching_numbers(shelf, query):
    """The rising list of the numbers of all pages that stand on a shelf and match a query."""
    check_shelf(shelf)
    check_query(query)
    return met_numbers(shelf, query)


def met_numbers(parts, query):
    """The rising list of the numbers of all pages that stand and match, by segments and their gone slots."""
    told = []
    for segment, gone in parts:
        numbers = segment.numbers()
        told.extend([numbers[slot] for slot in met_slots(segment, query) if slot not in gone])
    return sorted(told)
