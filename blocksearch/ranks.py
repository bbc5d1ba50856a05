"""Ranks: the figures of a shelf, shares of words, bounds of blocks, ranks of pages."""

from blocksearch.errors import NoNumber
from blocksearch.queries import wanted
from blocksearch.ratios import Ratio, total
from blocksearch.shelves import check_shelf, standing_slots
from blocksearch.walkers import Walker
from blocksearch.wholes import is_within
from blocksearch.words import MOST_WORDS, check_word


class Figures:
    """How many pages stand on a shelf, how many words they have in all, and how many of them have a word."""

    def __init__(self, shelf):
        check_shelf(shelf)
        # Own tuples: what is done to the shelf's lists later changes nothing here.
        self.parts = tuple([(segment, tuple(gone)) for segment, gone in shelf])
        self.pages_in_all = sum([len(standing_slots(segment, gone)) for segment, gone in self.parts])
        self.words_in_all = sum([standing_words(segment, gone) for segment, gone in self.parts])
        self.counted = {}

    def holders(self, word):
        """How many of the pages that stand have a word."""
        check_word(word)
        # The same few words are asked for over and over, and what stands here never changes.
        if word not in self.counted:
            self.counted[word] = sum([standing_holders(segment, gone, word) for segment, gone in self.parts])
        return self.counted[word]


def standing_words(segment, gone):
    """How many words a segment's pages that stand have in all."""
    lengths = segment.lengths()
    return sum([lengths[slot] for slot in standing_slots(segment, gone)])


def standing_holders(segment, gone, word):
    """How many of a segment's pages that stand have a word."""
    row = segment.row(word)
    walker = Walker(row)
    return len(row) - len([slot for slot in gone if walker.seek(slot) == slot])


def share(figures, word, often, length):
    """The share of a word that stands so often in a page of so many words."""
    check_word(word)
    check_count(often)
    check_count(length)
    holders = figures.holders(word)
    if often == 0 or holders == 0:
        return Ratio(0)
    pages, words = figures.pages_in_all, figures.words_in_all
    return Ratio((pages + 1) * often * words, holders * (often * words + words + length * pages))


def check_count(many):
    """Refuse what can't be a count of words of a page."""
    if not is_within(many, 0, MOST_WORDS):
        raise NoNumber("this is no count of words of a page")


def bound(figures, row, block):
    """What no share of the row's word, in a page of one of the block's entries, is greater than."""
    return share(figures, row.word, block.most, block.least)


def rank(figures, query, page):
    """The rank of a page for a query."""
    words = wanted(query)
    return sum_of_shares(figures, words, {word: page.often(word) for word in words}, len(page))


def sum_of_shares(figures, words, often, length):
    """The sum of the shares of words, by how often each stands in a page of so many words."""
    return total([share(figures, word, often[word], length) for word in words])
