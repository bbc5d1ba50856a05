"""Walkers: they go through a row and read as few of its blocks as they can."""

from blocksearch.codes import decode_entries
from blocksearch.errors import NoNumber, NoPlace, NoRow
from blocksearch.wholes import is_whole


class Walker:
    """One who stands at an entry of a row, or behind its end.

    Where it stands is a tuple: the place of the block in the row, and of the
    entry in the block; behind the end, the count of blocks and 0.
    """

    def __init__(self, row):
        self.heads = row.blocks()
        self.decoded = {}
        self.standing = (0, 0)

    def slot(self):
        """The slot at which the walker stands, None behind the end."""
        return self.slot_at(self.standing)

    def step(self):
        """Go to the next entry, and tell its slot."""
        at, entry = self.standing
        if at < len(self.heads):
            inside = entry + 1 < self.heads[at].many
            self.standing = (at, entry + 1) if inside else (at + 1, 0)
        return self.slot()

    def seek(self, slot):
        """Go to the first entry whose slot is no less, but never back, and tell its slot."""
        check_number(slot)
        self.standing = self.sought(slot, self.standing)
        return self.slot()

    def places(self):
        """The places of the entry at which the walker stands."""
        at, entry = self.standing
        if at == len(self.heads):
            raise NoPlace("behind the end there are no places")
        return self.entries_in(at)[entry][1]

    def block(self):
        """The block in which the walker stands, None behind the end."""
        return self.head_at(self.standing[0])

    def block_at(self, slot):
        """The first block, from where the walker stands on, whose last slot is no less than a slot."""
        check_number(slot)
        return self.head_at(self.reaching(slot, self.standing[0]))

    def glance(self, slots):
        """The slots to which the walker would come if it sought slots one behind another."""
        if not isinstance(slots, list):
            raise NoRow(None)
        standing = self.standing
        reached = []
        for at, slot in enumerate(slots):
            if not is_whole(slot):
                raise NoRow(at)
            standing = self.sought(slot, standing)
            reached.append(self.slot_at(standing))
        return reached

    def opened(self):
        """How many blocks were opened."""
        return len(self.decoded)

    def head_at(self, at):
        """The block at a place of the row, None behind the end."""
        return self.heads[at] if at < len(self.heads) else None

    def entries_in(self, at):
        """The entries of the block at a place of the row; this opens it."""
        if at not in self.decoded:
            self.decoded[at] = decode_entries(self.heads[at].coded)
        return self.decoded[at]

    def slot_at(self, standing):
        """The slot of an entry, None behind the end."""
        at, entry = standing
        if at == len(self.heads):
            return None
        # A block's head tells its first slot: only for further ones it must be opened.
        return self.heads[at].first if entry == 0 else self.entries_in(at)[entry][0]

    def reaching(self, slot, at):
        """The place of the first block, from a place on, whose last slot is no less than a slot."""
        while at < len(self.heads) and self.heads[at].last < slot:
            at += 1
        return at

    def sought(self, slot, standing):
        """Where one who stands at an entry comes to if it seeks a slot."""
        here = self.slot_at(standing)
        if here is None or slot <= here:
            return standing
        at = self.reaching(slot, standing[0])
        if at == len(self.heads) or slot <= self.heads[at].first:
            return (at, 0)
        return (at, len([one for one, places in self.entries_in(at) if one < slot]))


def check_number(slot):
    """Refuse what is no whole number."""
    if not is_whole(slot):
        raise NoNumber("this is no whole number")


def places_at(walker, slot):
    """The places of a slot that is not behind the walker's back; none if the row hasn't the slot."""
    return walker.places() if walker.seek(slot) == slot else ()


def common(rows):
    """The rising list of the slots that all rows of a list have."""
    walkers = [Walker(row) for row in rows]
    slots = []
    slot = walkers[0].slot() if walkers else None
    while slot is not None:
        reached = reached_by_all(walkers, slot)
        if reached == slot:
            slots.append(slot)
            reached = walkers[0].step()
        slot = reached
    return slots


def reached_by_all(walkers, slot):
    """The slot, if all walkers that seek it come to it, else the first other one that is come to."""
    for walker in walkers:
        reached = walker.seek(slot)
        if reached != slot:
            return reached
    return slot


def either(rows):
    """The rising list of the slots that any row of a list has."""
    return sorted({slot for row in rows for slot in slots_of(row)})


def without(row, other):
    """The rising list of the slots that a row has and another one hasn't."""
    walker = Walker(other)
    return [slot for slot in slots_of(row) if walker.seek(slot) != slot]


def slots_of(row):
    """The rising list of the slots of a row."""
    return [slot for slot, places in row.entries()]
