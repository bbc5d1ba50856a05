"""Disks: files by names, and deeds that wait until they are done for good."""

from blocksearch.copies import own_copy
from blocksearch.errors import NoDeed, NoFile, NoName
from blocksearch.wholes import is_within

NAME_SIGNS = "abcdefghijklmnopqrstuvwxyz0123456789."
MOST_NAME_SIGNS = 12


class Disk:
    """The files that are there for good, and the deeds that wait, in turn."""

    def __init__(self):
        self.files = {}
        self.deeds = []

    def __len__(self):
        return len(self.names())

    def write(self, name, text):
        """Let a text wait to be written under a name."""
        if not is_name(name):
            raise NoName("this is no name of a file")
        self.deeds.append(("write", name, text))

    def erase(self, name):
        """Let a file wait to be erased."""
        self.read(name)
        self.deeds.append(("erase", name))

    def read(self, name):
        """The text of a file."""
        files = files_after(self.files, self.deeds)
        # A list can't be looked up, so it is asked first whether this is a name.
        if not is_name(name) or name not in files:
            raise NoFile(own_copy(name))
        return files[name]

    def names(self):
        """The sorted list of the names of all files."""
        return sorted(files_after(self.files, self.deeds))

    def waiting(self):
        """How many deeds wait."""
        return len(self.deeds)

    def flush(self):
        """Do all deeds that wait for good."""
        self.files = files_after(self.files, self.deeds)
        self.deeds = []

    def crash(self, *, picks=()):
        """Do each deed that waits as far as its pick tells, and forget all of them."""
        check_picks(picks, self.deeds)
        # Where none is handed in the pick is 0, and the deed is lost.
        kept = [deed_by(deed, pick) for deed, pick in zip(self.deeds, picks) if pick > 0]
        self.files = files_after(self.files, kept)
        self.deeds = []

    def twin(self):
        """Another disk that is as this one is."""
        disk = Disk()
        disk.files = dict(self.files)
        disk.deeds = list(self.deeds)
        return disk


def is_name(thing):
    """Whether a thing is a name of a file."""
    if not isinstance(thing, str) or not 1 <= len(thing) <= MOST_NAME_SIGNS:
        return False
    return all([sign in NAME_SIGNS for sign in thing])


def files_after(files, deeds):
    """The files that are there when deeds were done, in turn."""
    after = dict(files)
    for deed in deeds:
        if deed[0] == "write":
            after[deed[1]] = deed[2]
        else:
            # Behind a crash the file may not be there: the deed that would have written it was lost.
            after.pop(deed[1], None)
    return after


def check_picks(picks, deeds):
    """Refuse picks of which one is none of its deed's, or has no deed."""
    if not isinstance(picks, (list, tuple)):
        raise NoDeed(None)
    for at, pick in enumerate(picks):
        if at >= len(deeds) or not is_within(pick, 0, most_pick(deeds[at])):
            raise NoDeed(at)


def most_pick(deed):
    """The greatest pick that a deed may have."""
    return len(deed[2]) + 1 if deed[0] == "write" else 1


def deed_by(deed, pick):
    """A deed as far as its pick, from 1 on, tells."""
    return ("write", deed[1], deed[2][:pick - 1]) if deed[0] == "write" else deed
