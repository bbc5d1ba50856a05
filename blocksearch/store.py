"""Stores: pages in hand and sealed ones, kept over many deeds."""

from blocksearch.codes import is_count
from blocksearch.copies import own_copy
from blocksearch.errors import Broken, Full, Gone, NoSize, Taken
from blocksearch.pages import Page
from blocksearch.rows import MOST_LENGTHS, SIZE, check_size
from blocksearch.segments import Segment, pages_of
from blocksearch.shelves import standing_numbers, standing_slots
from blocksearch.wholes import is_whole, is_within

MOST_PAGES = 120
MOST_IN_HAND = 60
MOST_SEALED = 7
LAST = 5


class Store:
    """Pages in hand, by their numbers, and sealed segments in a row, each with its gone slots."""

    def __init__(self, size=SIZE):
        check_size(size)
        self.size = size
        self.hand = {}
        self.parts = ()
        self.written = []

    def __len__(self):
        return len(self.numbers())

    def put(self, page, *, anew=False):
        """Put a page in hand; put anew, the one of its number that stands goes first."""
        self.begin("put")
        self.take(page, anew)
        self.end("put")

    def put_all(self, pages, *, anew=False):
        """Put several pages in hand, or none of them if one is refused."""
        self.begin("put_all")
        hand, parts = dict(self.hand), self.parts
        for at, page in enumerate(pages):
            try:
                self.take(page, anew)
            except (Taken, Full):
                self.hand, self.parts = hand, parts
                raise Broken(at)
        self.end("put_all")

    def drop(self, number):
        """Drop the page of a number."""
        self.begin("drop")
        self.check_stands(number)
        self.let_go(number)
        self.end("drop")

    def seal(self):
        """Make a segment of all pages in hand, and tell whether there were any."""
        self.begin("seal")
        some = len(self.hand) > 0
        if some and len(self.parts) >= MOST_SEALED:
            raise Full(MOST_SEALED)
        if some:
            self.parts = (*self.parts, (self.hand_segment(), ()))
            self.hand = {}
        self.end("seal")
        return some

    def merge(self, *, at=0, many=2):
        """Put one segment in the place of so many, from a place of the row on, and tell the moves."""
        self.begin("merge")
        if not is_within(at, 0, len(self.parts) - 1) or not is_within(many, 1, len(self.parts) - at):
            raise NoSize("so many segments are not there")
        moved, moves = merged(self.parts[at:at + many], self.size)
        self.parts = (*self.parts[:at], *moved, *self.parts[at + many:])
        self.end("merge")
        return moves

    def shelf(self):
        """The list of all segments, each with the list of its gone slots; the pages in hand are the last one."""
        shelf = [(segment, list(gone)) for segment, gone in self.parts]
        if len(self.hand) > 0:
            shelf.append((self.hand_segment(), []))
        return shelf

    def numbers(self):
        """The rising list of the numbers that stand."""
        standing = [number for segment, gone in self.parts for number in standing_numbers(segment, gone)]
        return sorted([*self.hand, *standing])

    def in_hand(self):
        """The rising list of the numbers in hand."""
        return sorted(self.hand)

    def sealed(self):
        """How many segments are sealed."""
        return len(self.parts)

    def page(self, number):
        """The page of a number that stands."""
        self.check_stands(number)
        if number in self.hand:
            return page_like(self.hand[number])
        at, slot = self.sealed_place(number)
        return self.parts[at][0].page(slot)

    def log(self, *, last=LAST):
        """The list of the last so many deeds, each with whether it was done."""
        if not is_count(last):
            raise NoSize("so many deeds are not told")
        return self.written[max(0, len(self.written) - last):]

    def begin(self, word):
        """Write a deed down as refused: what is refused on the way leaves it so."""
        self.written.append((word, False))

    def end(self, word):
        """Write down that the deed was done."""
        self.written[-1] = (word, True)

    def check_stands(self, thing):
        """Refuse what is no number of a page that stands."""
        if not self.stands(thing):
            raise Gone(own_copy(thing))

    def stands(self, thing):
        """Whether a thing is the number of a page that stands."""
        return is_whole(thing) and (thing in self.hand or self.sealed_place(thing) is not None)

    def sealed_place(self, number):
        """The place of the segment, and the slot, at which a number stands, None if it isn't sealed."""
        for at, (segment, gone) in enumerate(self.parts):
            slot = segment.slot_of(number)
            if slot is not None and slot not in gone:
                return at, slot
        return None

    def take(self, page, anew):
        """Take a page in hand, if there is room for it."""
        number = page.number
        stood = self.stands(number)
        if stood and not anew:
            raise Taken(number)
        self.check_room(number)
        if stood:
            self.let_go(number)
        # An own page: what is done to the one that was handed in changes nothing here.
        self.hand[number] = page_like(page)

    def check_room(self, number):
        """Refuse a page of a number for which there would be no room when one that stands has gone."""
        # A recovered store may have more than the bounds let in: so the others are
        # counted, whether or not a page of this number goes.
        if len(self.parts) > MOST_SEALED:
            raise Full(MOST_SEALED)
        if len([one for one in self.hand if one != number]) >= MOST_IN_HAND:
            raise Full(MOST_IN_HAND)
        if len([one for one in self.numbers() if one != number]) >= MOST_PAGES:
            raise Full(MOST_PAGES)

    def let_go(self, number):
        """Let the page of a number that stands go: out of the hand, or its slot is gone."""
        if number in self.hand:
            del self.hand[number]
            return
        at, slot = self.sealed_place(number)
        segment, gone = self.parts[at]
        fewer = (segment, tuple(sorted([*gone, slot])))
        self.parts = (*self.parts[:at], fewer, *self.parts[at + 1:])

    def hand_segment(self):
        """A segment of all pages in hand."""
        return Segment([self.hand[number] for number in self.hand], size=self.size)


def page_like(page):
    """A page of the same number and text."""
    return Page(page.number, str(page))


def merged(parts, size):
    """What comes in the place of segments: none or one with its gone slots; and the moves."""
    stood = []
    for at, (segment, gone) in enumerate(parts):
        pages = pages_of(segment)
        stood.extend([(at, slot, pages[slot]) for slot in standing_slots(segment, gone)])
    if len(stood) > MOST_LENGTHS:
        raise Full(MOST_LENGTHS)
    if not stood:
        return [], []
    segment = Segment([page for at, slot, page in stood], size=size)
    return [(segment, ())], [(at, slot, segment.slot_of(page.number)) for at, slot, page in stood]


def store_of(size, shelf):
    """A store of a size whose sealed segments are those of a shelf, with none in hand."""
    store = Store(size)
    store.parts = tuple([(segment, tuple(gone)) for segment, gone in shelf])
    return store
