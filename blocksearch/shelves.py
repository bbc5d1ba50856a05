"""Shelves: segments in a row, each with the slots of those of its pages that are gone."""

from blocksearch.codes import first_fall
from blocksearch.errors import NoShelf
from blocksearch.segments import Segment

MOST_SEGMENTS = 8


def check_shelf(shelf):
    """Refuse what is no shelf."""
    if not isinstance(shelf, list) or len(shelf) > MOST_SEGMENTS:
        raise NoShelf(None)
    ahead = set()
    for at, part in enumerate(shelf):
        if not is_shelved(part):
            raise NoShelf(at)
        segment, gone = part
        for number in standing_numbers(segment, gone):
            if number in ahead:
                raise NoShelf(at)
            ahead.add(number)


def is_shelved(thing):
    """Whether a thing is a tuple of a segment and the rising list of its gone slots."""
    if not isinstance(thing, tuple) or len(thing) != 2:
        return False
    segment, gone = thing
    return isinstance(segment, Segment) and isinstance(gone, list) and are_slots(gone, len(segment))


def are_slots(things, many):
    """Whether the things of a list are slots of so many, and rise."""
    return first_fall(things) is None and (not things or things[-1] < many)


def standing_slots(segment, gone):
    """The rising list of the slots of a segment whose pages stand."""
    return [slot for slot in range(len(segment)) if slot not in gone]


def standing_numbers(segment, gone):
    """The rising list of the numbers of a segment's pages that stand."""
    numbers = segment.numbers()
    return [numbers[slot] for slot in standing_slots(segment, gone)]
