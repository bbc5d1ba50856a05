"""Segments: sealed pages, kept as the rows of their words alone."""

from blocksearch.errors import NoSlot
from blocksearch.pages import Page, check_pages
from blocksearch.rows import MOST_LENGTHS, SIZE, Row, check_size
from blocksearch.walkers import Walker, places_at
from blocksearch.wholes import is_whole, is_within
from blocksearch.words import check_word


class Segment:
    """Pages by slots: their numbers and lengths, and for each of their words a row."""

    def __init__(self, pages, *, size=SIZE):
        check_pages(pages, least=1, most=MOST_LENGTHS)
        check_size(size)
        by_slots = sorted(pages, key=lambda page: page.number)
        self.size = size
        self.slot_numbers = tuple([page.number for page in by_slots])
        self.slot_lengths = tuple([len(page) for page in by_slots])
        self.rows = rows_of(by_slots, size)

    def __eq__(self, other):
        return isinstance(other, Segment) and self.kept() == other.kept()

    def __len__(self):
        return len(self.slot_numbers)

    def numbers(self):
        """The list of the pages' numbers, by slots."""
        return list(self.slot_numbers)

    def lengths(self):
        """The list of the pages' lengths, by slots."""
        return list(self.slot_lengths)

    def words(self):
        """The sorted list of all words of the pages."""
        return sorted(self.rows)

    def row(self, word):
        """The row of a word, without entries if no page has it."""
        check_word(word)
        if word in self.rows:
            return self.rows[word]
        return Row(word, [], self.lengths(), size=self.size)

    def slot_of(self, number):
        """The slot of the page of a number, None if none has it."""
        if not is_whole(number) or number not in self.slot_numbers:
            return None
        return self.slot_numbers.index(number)

    def page(self, slot):
        """The page at a slot, put together from the rows."""
        check_slot(slot, self)
        words = [""] * self.slot_lengths[slot]
        for word in self.rows:
            for place in places_at(Walker(self.rows[word]), slot):
                words[place] = word
        return Page(self.slot_numbers[slot], " ".join(words))

    def kept(self):
        """All that the segment keeps."""
        return self.size, self.slot_numbers, self.slot_lengths, self.rows


def check_slot(slot, segment):
    """Refuse what is no slot of a segment."""
    if not is_within(slot, 0, len(segment) - 1):
        raise NoSlot("this is no slot of the segment")


def pages_of(segment):
    """The list of all pages of a segment, by slots; each row is read once alone."""
    words = [[""] * length for length in segment.lengths()]
    for word in segment.words():
        for slot, places in segment.row(word).entries():
            for place in places:
                words[slot][place] = word
    return [Page(number, " ".join(one)) for number, one in zip(segment.numbers(), words)]


def rows_of(pages, size):
    """The row of each word that one of several pages has, the pages by slots."""
    lengths = [len(page) for page in pages]
    entries = {}
    for slot, page in enumerate(pages):
        places = places_by_word(page)
        for word in places:
            entries.setdefault(word, []).append((slot, tuple(places[word])))
    return {word: Row(word, entries[word], lengths, size=size) for word in entries}


def places_by_word(page):
    """The places of each word of a page."""
    places = {}
    for at, word in enumerate(page.words()):
        places.setdefault(word, []).append(at)
    return places
