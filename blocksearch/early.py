"""The early way: the best of a shelf without looking at all, and a paper that nothing better was left out."""

from blocksearch.best import MANY, MOST, Best
from blocksearch.errors import NoSlot
from blocksearch.meaning import is_met
from blocksearch.queries import check_query, is_query, wanted, words_in
from blocksearch.ranks import Figures, bound, sum_of_shares
from blocksearch.ratios import total
from blocksearch.segments import check_slot
from blocksearch.walkers import Walker, places_at
from blocksearch.wholes import is_whole, is_within


def bound_at(shelf, query, at, slot):
    """What no rank of a page at a slot, of the segment at a place of a shelf, is greater than."""
    figures = Figures(shelf)
    check_query(query)
    if not is_within(at, 0, len(shelf) - 1):
        raise NoSlot("this is no place of a segment on the shelf")
    segment = shelf[at][0]
    check_slot(slot, segment)
    return bound_among(block_bounds(figures, query, segment), slot)


def block_bounds(figures, query, segment):
    """For each block of the row of each wanted word its first and last slot, and its bound."""
    bounds = []
    for word in wanted(query):
        row = segment.row(word)
        bounds.extend([(block.first, block.last, bound(figures, row, block)) for block in row.blocks()])
    return bounds


def bound_among(bounds, slot):
    """The sum of the bounds of those blocks that reach over a slot."""
    return total([most for first, last, most in bounds if first <= slot <= last])


class View:
    """A segment of a shelf as a query looks at it: bounds by heads, pages by the rows of the query's words."""

    def __init__(self, figures, query, segment, gone):
        self.figures = figures
        self.query = query
        self.gone = tuple(gone)
        self.slot_numbers = tuple(segment.numbers())
        self.slot_lengths = tuple(segment.lengths())
        self.bounds = block_bounds(figures, query, segment)
        self.walkers = {word: Walker(segment.row(word)) for word in words_in(query)}

    def may_leave(self, slot, best):
        """Whether no page at a slot could be held beside what is held."""
        if slot in self.gone:
            return True
        most = bound_among(self.bounds, slot)
        return most.top == 0 or not best.would_hold(self.slot_numbers[slot], most)

    def put_page(self, slot, best, seen):
        """Put the page at a slot, if it stands and matches; slots are asked for in turn."""
        places = {word: places_at(self.walkers[word], slot) for word in self.walkers}
        if slot in self.gone or not is_met(self.query, places):
            return
        often = {word: len(places[word]) for word in places}
        ratio = sum_of_shares(self.figures, wanted(self.query), often, self.slot_lengths[slot])
        number = self.slot_numbers[slot]
        if seen is not None:
            seen(number)
        best.put(number, ratio)

    def early_spans(self, best, seen):
        """Go through all slots, see those that may not be left, and tell the spans."""
        spans = []
        for slot in range(len(self.slot_numbers)):
            if self.may_leave(slot, best):
                add_left(spans, slot)
            else:
                spans.append(("seen", slot))
                self.put_page(slot, best, seen)
        return spans


def add_left(spans, slot):
    """Write a left slot down, in one span with those just ahead of it."""
    first = slot
    if spans and spans[-1][0] == "left":
        first = spans.pop()[1]
    spans.append(("left", first, slot))


def views_of(figures, query):
    """A view of each segment of the shelf whose figures they are."""
    return [View(figures, query, segment, gone) for segment, gone in figures.parts]


def best_early(shelf, query, *, k=MANY, seen=None):
    """The paper of the best of a shelf, by the early way."""
    figures = Figures(shelf)
    check_query(query)
    best = Best(k)
    spans = put_early(best, figures, query, seen)
    return ("best", query, k, told_values(best), spans)


def put_early(best, figures, query, seen):
    """Put what the early way comes to, by the figures of a shelf, and tell the spans of each segment."""
    return [view.early_spans(best, seen) for view in views_of(figures, query)]


def told_values(best):
    """The list of what is held, each as its number and its ratio's values."""
    return [(number, ratio.top, ratio.bottom) for number, ratio in best.told()]


def holds_best(shelf, thing):
    """Whether a thing is a paper of the best that holds for a shelf."""
    figures = Figures(shelf)
    if not is_best_paper(thing, [len(segment) for segment, gone in shelf]):
        return False
    query, k, told, spans = thing[1:]
    best = Best(k)
    views = views_of(figures, query)
    for view, row in zip(views, spans):
        for slot in slots_in(row, "seen"):
            view.put_page(slot, best, None)
    if told != told_values(best):
        return False
    return all([view.may_leave(slot, best) for view, row in zip(views, spans) for slot in slots_in(row, "left")])


def slots_in(spans, kind):
    """The rising list of the slots of those spans that are of a kind."""
    return [slot for span in spans if span[0] == kind for slot in range(span[1], span[-1] + 1)]


def is_best_paper(thing, sizes):
    """Whether a thing has the form of a paper of the best, for segments of so many slots each."""
    if not isinstance(thing, tuple) or len(thing) != 5 or thing[0] != "best":
        return False
    query, k, told, spans = thing[1:]
    return is_query(query) and is_within(k, 0, MOST) and are_told(told) and are_spans(spans, sizes)


def are_told(thing):
    """Whether a thing is a list of tuples of three whole numbers."""
    return isinstance(thing, list) and all([is_told(one) for one in thing])


def is_told(thing):
    """Whether a thing is a tuple of three whole numbers."""
    return isinstance(thing, tuple) and len(thing) == 3 and all([is_whole(one) for one in thing])


def are_spans(thing, sizes):
    """Whether a thing is a list with one list of spans for each segment of so many slots."""
    if not isinstance(thing, list) or len(thing) != len(sizes):
        return False
    return all([come_to_each(row, many) for row, many in zip(thing, sizes)])


def come_to_each(thing, many):
    """Whether a thing is a list of spans that come, one behind another, to each of so many slots once."""
    if not isinstance(thing, list):
        return False
    due = 0
    for span in thing:
        if not is_span(span) or span[1] != due:
            return False
        due = span[-1] + 1
    return due == many


def is_span(thing):
    """Whether a thing is a seen slot, or a row of left ones."""
    if not isinstance(thing, tuple) or not all([is_whole(one) for one in thing[1:]]):
        return False
    if len(thing) == 2:
        return thing[0] == "seen"
    return len(thing) == 3 and thing[0] == "left" and thing[1] <= thing[2]
