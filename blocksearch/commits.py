"""Commits: sets of segments on a disk, of which a crash keeps one whole."""

from blocksearch.errors import NoFile, NoShelf, Torn
from blocksearch.files import rows_of, segment_of, segment_rows, whole_text
from blocksearch.numerals import number_in
from blocksearch.rows import MOST_SIZE
from blocksearch.shelves import MOST_SEGMENTS, check_shelf
from blocksearch.store import store_of
from blocksearch.wholes import is_within

SERIAL_FIGURES = 6
SLOT_FIGURES = 2


def deeds_of(store, disk):
    """The list of the deeds by which a store is committed to a disk."""
    serial = next_serial(disk)
    shelf = store.shelf()
    texts = [whole_text(segment_rows(segment)) for segment, gone in shelf]
    kept = kept_files(disk)
    names = [kept.get(text, f"s{serial}.{at}") for at, text in enumerate(texts)]
    written = [("write", name, text) for name, text in zip(names, texts) if text not in kept]
    head = head_rows(serial, store.size, names, [gone for segment, gone in shelf])
    needed = [head_name(serial), *names]
    erased = [("erase", name) for name in disk.names() if name not in needed]
    return [*written, ("flush",), ("write", head_name(serial), whole_text(head)), ("flush",), *erased, ("flush",)]


def play(disk, deed):
    """Do one deed of a commit."""
    if deed[0] == "write":
        disk.write(deed[1], deed[2])
    elif deed[0] == "erase":
        disk.erase(deed[1])
    else:
        disk.flush()


def commit(store, disk):
    """Commit a store to a disk, and tell the serial."""
    serial = next_serial(disk)
    for deed in deeds_of(store, disk):
        play(disk, deed)
    return serial


def standing(disk):
    """The rising list of the serials of the heads that stand."""
    return [serial for serial in head_serials(disk) if set_at(disk, serial) is not None]


def recovered(disk):
    """The store of the set of the newest head that stands."""
    serials = head_serials(disk)
    if not serials:
        raise NoFile("head")
    newest = newest_set(disk)
    if newest is None:
        raise Torn(head_name(serials[-1]))
    size, names, shelf = newest
    return store_of(size, shelf)


def head_name(serial):
    """The name of the head of a serial."""
    return f"h{serial}"


def head_rows(serial, size, names, gones):
    """The rows of a head: the serial, the size, and for each segment its file's name and its gone slots."""
    rows = [str(serial), str(size)]
    for name, gone in zip(names, gones):
        rows.append(" ".join([name, *[str(slot) for slot in gone]]))
    return rows


def next_serial(disk):
    """One more than the greatest serial of any file that is named like a head."""
    return max(head_serials(disk), default=0) + 1


def head_serials(disk):
    """The rising list of the serials of all files that are named like a head."""
    serials = [serial_behind("h", name) for name in disk.names()]
    return sorted([serial for serial in serials if serial is not None and serial > 0])


def serial_behind(letter, text):
    """The number that stands behind a letter, None if a text is no such one."""
    return number_in(text[1:], SERIAL_FIGURES) if text.startswith(letter) else None


def kept_files(disk):
    """For each text of a file of the newest head that stands the name of the first such file."""
    newest = newest_set(disk)
    names = [] if newest is None else newest[1]
    kept = {}
    for name in names:
        kept.setdefault(disk.read(name), name)
    return kept


def newest_set(disk):
    """The set of the newest head that stands, None if none does."""
    for serial in reversed(head_serials(disk)):
        told = set_at(disk, serial)
        if told is not None:
            return told
    return None


def set_at(disk, serial):
    """The set of the head of a serial, None if it doesn't stand."""
    try:
        return set_of(disk, serial)
    except (NoFile, NoShelf, Torn):
        return None


def set_of(disk, serial):
    """The set of a head, as its size, its files' names and its shelf; refused if it doesn't stand."""
    head = head_name(serial)
    rows = rows_of(disk.read(head), name=head)
    if not 2 <= len(rows) <= MOST_SEGMENTS + 2 or rows[0] != str(serial):
        raise Torn(head)
    size = number_in(rows[1], 1)
    if not is_within(size, 1, MOST_SIZE):
        raise Torn(head)
    parts = [row.split(" ") for row in rows[2:]]
    names = [part[0] for part in parts]
    if not all([is_file_of(name, serial) for name in names]):
        raise Torn(head)
    shelf = [(segment_at(disk, part[0]), [number_in(text, SLOT_FIGURES) for text in part[1:]]) for part in parts]
    # Gone slots that are none, or a number that stands twice, make no shelf.
    check_shelf(shelf)
    if not all([segment.size == size for segment, gone in shelf]):
        raise Torn(head)
    return size, names, shelf


def is_file_of(name, serial):
    """Whether the head of a serial may have a file of such a name."""
    front, dot, place = name.partition(".")
    return is_within(serial_behind("s", front), 1, serial) and number_in(place, 1) is not None


def segment_at(disk, name):
    """The segment of a file."""
    return segment_of(rows_of(disk.read(name), name=name), name=name)
