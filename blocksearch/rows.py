"""Rows: the entries of a word, cut in blocks that are coded texts with heads."""

from blocksearch.codes import check_entries, code_entries, decode_entries
from blocksearch.errors import NoEntries, NoLengths, NoSize
from blocksearch.wholes import is_within
from blocksearch.words import MOST_WORDS, check_word

SIZE = 4
MOST_SIZE = 8
MOST_LENGTHS = 60


class Block:
    """Some neighbouring entries of a row: a head, and their text."""

    def __init__(self, entries, lengths):
        self.first = entries[0][0]
        self.last = entries[-1][0]
        self.many = len(entries)
        self.most = max([len(places) for slot, places in entries])
        self.least = min([lengths[slot] for slot, places in entries])
        self.coded = code_entries(entries)

    def __eq__(self, other):
        return isinstance(other, Block) and self.head() == other.head() and self.coded == other.coded

    def __len__(self):
        return len(range(self.many))

    def head(self):
        """All that is known of the block without reading its text."""
        return self.first, self.last, self.many, self.most, self.least


class Row:
    """A word, and the entries of the pages that have it."""

    def __init__(self, word, entries, lengths, *, size=SIZE):
        check_word(word)
        check_entries(entries)
        check_lengths(lengths)
        check_size(size)
        check_fit(entries, lengths)
        self.word = word
        self.size = size
        self.cut = tuple([Block(entries[at:at + size], lengths) for at in range(0, len(entries), size)])

    def __eq__(self, other):
        if not isinstance(other, Row):
            return False
        return self.word == other.word and self.size == other.size and self.cut == other.cut

    def __len__(self):
        return len(range(sum([block.many for block in self.cut])))

    def blocks(self):
        """The list of the row's blocks."""
        return list(self.cut)

    def entries(self):
        """The list of the row's entries."""
        return [entry for block in self.cut for entry in decode_entries(block.coded)]


def check_lengths(lengths):
    """Refuse what is no list of lengths of pages."""
    if not isinstance(lengths, list) or len(lengths) > MOST_LENGTHS:
        raise NoLengths("this is no list of at most sixty lengths")
    if not all([is_within(length, 0, MOST_WORDS) for length in lengths]):
        raise NoLengths("one of these is no length of a page")


def check_size(size):
    """Refuse what is no size of blocks."""
    if not is_within(size, 1, MOST_SIZE):
        raise NoSize("this is no size of blocks")


def check_fit(entries, lengths):
    """Refuse entries of which one has no length, or a place beyond it."""
    for at, (slot, places) in enumerate(entries):
        if slot >= len(lengths) or places[-1] >= lengths[slot]:
            raise NoEntries(at)
