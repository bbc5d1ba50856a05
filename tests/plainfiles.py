"""The plain reading of files: whole texts, and segments as rows."""

import re

from blocksearch.codes import code_entries, decode_entries
from blocksearch.errors import NoCode
from blocksearch.pages import Page


def check_plainly(rows):
    check = 1
    for row in rows:
        for sign in row + "\n":
            check = (31 * check + ord(sign)) % 65521
    return check


def text_plainly(rows):
    check = hex(check_plainly(rows))[2:]
    return "0" * (4 - len(str(len(rows)))) + f"{len(rows)}:" + "0" * (4 - len(check)) + check + "\n" + "".join(
        row + "\n" for row in rows)


def rows_plainly(text):
    """The rows of a whole text, None of a torn one: point 38 word for word."""
    if not isinstance(text, str) or not re.match(r"[0-9]{4}:[0-9a-f]{4}\n", text):
        return None
    body = text[10:]
    if not re.fullmatch(r"[ -~\n]*", body) or not (body == "" or body[-1] == "\n"):
        return None
    rows = body[:-1].split("\n") if body else []
    if len(rows) != int(text[:4]) or check_plainly(rows) != int(text[5:9], 16) or max(map(len, rows), default=0) > 20000:
        return None
    return rows


def segment_rows_plainly(pages, size):
    """Point 39 word for word, by the pages' words."""
    pages = sorted(pages, key=lambda page: page.number)
    rows = [str(size), " ".join(f"{page.number}:{len(page)}" for page in pages)]
    for word in sorted({word for page in pages for word in page.words()}):
        entries = [(slot, tuple(page.places(word))) for slot, page in enumerate(pages) if word in page.words()]
        blocks = [code_entries(entries[at:at + size]) for at in range(0, len(entries), size)]
        rows.append(" ".join([word] + blocks))
    return rows


def pages_plainly(rows):
    """The pages of a segment's own rows, None of others: pages are guessed of them, and written anew."""
    if not isinstance(rows, list) or not all(isinstance(row, str) for row in rows) or len(rows) < 2:
        return None
    if not re.fullmatch(r"[1-8]", rows[0]) or not re.fullmatch(r"([0-9]{1,4}:[0-9]{1,3}( |$))+", rows[1]):
        return None
    heads = [tuple(map(int, head.split(":"))) for head in rows[1].split()]
    texts = [["zzz"] * length for number, length in heads]
    try:
        for row in rows[2:]:
            for text in row.split(" ")[1:]:
                for slot, places in decode_entries(text):
                    for place in places:
                        texts[slot][place] = row.split(" ")[0]
        pages = [Page(number, " ".join(words)) for (number, length), words in zip(heads, texts)]
    except (NoCode, IndexError, ValueError):
        return None
    if not 1 <= len({page.number for page in pages}) == len(pages) <= 60:
        return None
    return pages if segment_rows_plainly(pages, int(rows[0])) == rows else None


def set_plainly(files, serial):
    """Point 41 word for word: of a head its size and, for each segment, its pages by slots and gone slots; else None."""
    rows = rows_plainly(files.get(f"h{serial}"))
    if rows is None or len(rows) < 2 or rows[0] != str(serial) or rows[1] not in list("12345678") or len(rows) > 10:
        return None
    parts, stands = [], []
    for row in rows[2:]:
        match = re.fullmatch(r"(s([1-9][0-9]{0,9})\.[0-9])((?: (?:0|[1-9][0-9]{0,9}))*)", row)
        if not match or int(match[2]) > serial:
            return None
        inner = rows_plainly(files.get(match[1]))
        pages = None if inner is None else pages_plainly(inner)
        gone = [int(text) for text in match[3].split()]
        if pages is None or inner[0] != rows[1] or gone != sorted(set(gone) & set(range(len(pages)))):
            return None
        stands += [page.number for slot, page in enumerate(pages) if slot not in gone]
        parts.append((pages, gone))
    return (int(rows[1]), parts) if len(stands) == len(set(stands)) else None


def serials_plainly(files):
    """The serials of the files that are named like a head."""
    return sorted(int(name[1:]) for name in files if re.fullmatch(r"h[1-9][0-9]{0,5}", name))
