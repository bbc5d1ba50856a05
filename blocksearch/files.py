"""Files: texts that show whether they are whole, and segments as rows of texts."""

from blocksearch.codes import decode_entries
from blocksearch.errors import NoCode, Torn
from blocksearch.numerals import number_in
from blocksearch.pages import MOST_NUMBER, Page
from blocksearch.rows import MOST_LENGTHS, MOST_SIZE
from blocksearch.segments import Segment
from blocksearch.wholes import is_within
from blocksearch.words import MOST_WORDS, is_word

MOST_ROWS = 9999
MOST_SIGNS = 20000
FACTOR = 31
DIVISOR = 65521
HEAD_SIGNS = 10


def whole_text(rows):
    """The text of a file: how many rows there are, the check, and the rows, each with a line feed behind it."""
    body = "".join([row + "\n" for row in rows])
    return f"{len(rows):04d}:{check_of(body):04x}\n{body}"


def check_of(body):
    """The check of a file's rows and their line feeds."""
    check = 1
    for sign in body:
        check = (FACTOR * check + ord(sign)) % DIVISOR
    return check


def rows_of(text, *, name=""):
    """The list of the rows of a file's text."""
    if not isinstance(text, str):
        raise Torn(name)
    # Behind the last line feed stands nothing in a whole text; if something does, the texts differ.
    rows = text[HEAD_SIGNS:].split("\n")[:-1]
    if len(rows) > MOST_ROWS or not all([is_row(row) for row in rows]) or whole_text(rows) != text:
        raise Torn(name)
    return rows


def is_row(row):
    """Whether a text may be a row of a file."""
    return len(row) <= MOST_SIGNS and all([" " <= sign <= "~" for sign in row])


def segment_rows(segment):
    """The list of a segment's rows: its size; its pages; each word with the texts of its blocks."""
    pages = [f"{number}:{length}" for number, length in zip(segment.numbers(), segment.lengths())]
    words = [" ".join([word, *coded_blocks(segment, word)]) for word in segment.words()]
    return [str(segment.size), " ".join(pages), *words]


def coded_blocks(segment, word):
    """The texts of the blocks of a word's row."""
    return [block.coded for block in segment.row(word).blocks()]


def segment_of(rows, *, name=""):
    """The segment whose rows these are."""
    if not isinstance(rows, list) or len(rows) < 2 or not all([isinstance(row, str) for row in rows]):
        raise Torn(name)
    size = number_in(rows[0], 1)
    pages = pages_in(rows)
    if not is_within(size, 1, MOST_SIZE) or pages is None:
        raise Torn(name)
    segment = Segment(pages, size=size)
    # What was read may have been written otherwise; a segment's own rows are just these.
    if segment_rows(segment) != rows:
        raise Torn(name)
    return segment


def pages_in(rows):
    """The pages that a segment's rows tell, by slots; None if they can't tell any."""
    heads = heads_in(rows[1])
    if heads is None:
        return None
    filled = [[""] * length for number, length in heads]
    for row in rows[2:]:
        if not fill_by_row(filled, row):
            return None
    if any(["" in words for words in filled]):
        return None
    return [Page(number, " ".join(words)) for (number, length), words in zip(heads, filled)]


def heads_in(row):
    """The numbers and lengths of pages of rising numbers that a row tells; None if it tells none."""
    heads = [head_in(text) for text in row.split(" ")]
    if len(heads) > MOST_LENGTHS or None in heads:
        return None
    numbers = [number for number, length in heads]
    return heads if numbers == sorted(set(numbers)) else None


def head_in(text):
    """The number and the length of a page that a text tells; None if it tells none."""
    number, colon, length = text.partition(":")
    head = (number_in(number, 4), number_in(length, 3))
    return head if is_within(head[0], 1, MOST_NUMBER) and is_within(head[1], 0, MOST_WORDS) else None


def fill_by_row(filled, row):
    """Write a word at the places that its row tells, and tell whether all of them were there and free."""
    word, *coded = row.split(" ")
    if not is_word(word):
        return False
    for text in coded:
        try:
            entries = decode_entries(text)
        except NoCode:
            return False
        for slot, places in entries:
            if not are_free(filled, slot, places):
                return False
            for at in places:
                filled[slot][at] = word
    return True


def are_free(filled, slot, places):
    """Whether places of a slot are there, and no word stands at one of them."""
    if slot >= len(filled) or places[-1] >= len(filled[slot]):
        return False
    return all([filled[slot][at] == "" for at in places])
