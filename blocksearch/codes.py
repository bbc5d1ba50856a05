"""Codes: lists of numbers, rising lists and entries as texts, and back."""

from blocksearch.errors import NoCode, NoEntries, NoNumber, NoRow
from blocksearch.wholes import is_whole

DIGITS_AHEAD = "ABCDEFGHIJKLMNOP"
LAST_DIGITS = "abcdefghijklmnop"


def is_count(thing):
    """Whether a thing is a whole number from 0 on."""
    return is_whole(thing) and thing >= 0


def code(number):
    """The text of a number: its digits by sixteen, the least first."""
    if not is_count(number):
        raise NoNumber("this is no whole number from 0 on")
    signs = []
    while number >= 16:
        number, digit = divmod(number, 16)
        signs.append(DIGITS_AHEAD[digit])
    signs.append(LAST_DIGITS[number])
    return "".join(signs)


def code_all(numbers):
    """The text of a list of numbers."""
    if not isinstance(numbers, list):
        raise NoRow(None)
    for at, number in enumerate(numbers):
        if not is_count(number):
            raise NoRow(at)
    return "".join([code(number) for number in numbers])


def decode(text):
    """The list of numbers whose code a text is."""
    check_text(text)
    numbers = []
    at = 0
    while at < len(text):
        number, at = read_number(text, at)
        numbers.append(number)
    return numbers


def code_rising(numbers):
    """The text of a rising list."""
    if not isinstance(numbers, list):
        raise NoRow(None)
    at = first_fall(numbers)
    if at is not None:
        raise NoRow(at)
    return code_all(gaps_of(numbers))


def decode_rising(text):
    """The rising list whose code a text is."""
    return risen(decode(text))


def code_entries(entries):
    """The text of a list of entries."""
    check_entries(entries)
    texts = [code(len(entries)), code_all(gaps_of([slot for slot, places in entries]))]
    for slot, places in entries:
        texts.append(code(len(places) - 1))
        texts.append(code_all(gaps_of(places)))
    return "".join(texts)


def decode_entries(text):
    """The list of entries whose code a text is."""
    check_text(text)
    many, at = read_number(text, 0)
    slot_gaps, at = read_numbers(text, at, many)
    entries = []
    for slot in risen(slot_gaps):
        further, at = read_number(text, at)
        place_gaps, at = read_numbers(text, at, further + 1)
        entries.append((slot, tuple(risen(place_gaps))))
    if at < len(text):
        raise NoCode(at)
    return entries


def check_entries(entries):
    """Refuse what is no list of entries with rising slots."""
    if not isinstance(entries, list):
        raise NoEntries(None)
    ahead = -1
    for at, entry in enumerate(entries):
        if not is_entry(entry) or entry[0] <= ahead:
            raise NoEntries(at)
        ahead = entry[0]


def is_entry(thing):
    """Whether a thing is a tuple of a slot and its places."""
    return isinstance(thing, tuple) and len(thing) == 2 and is_count(thing[0]) and are_places(thing[1])


def are_places(thing):
    """Whether a thing is a tuple of at least one place, rising."""
    return isinstance(thing, tuple) and len(thing) > 0 and first_fall(thing) is None


def first_fall(things):
    """The first place at which things are no rising row of numbers, None if they are one."""
    ahead = -1
    for at, thing in enumerate(things):
        if not is_whole(thing) or thing <= ahead:
            return at
        ahead = thing
    return None


def gaps_of(numbers):
    """How many numbers lie between each of a rising row and the one ahead."""
    gaps = []
    # Ahead of the first one stands -1, so its gap is the number itself.
    ahead = -1
    for number in numbers:
        gaps.append(number - ahead - 1)
        ahead = number
    return gaps


def risen(gaps):
    """The rising list that has such gaps."""
    numbers = []
    ahead = -1
    for gap in gaps:
        ahead += gap + 1
        numbers.append(ahead)
    return numbers


def check_text(text):
    """Refuse what is no text."""
    if not isinstance(text, str):
        raise NoCode(None)


def read_number(text, start):
    """The number whose code begins at a place of a text, and the place behind it."""
    number = 0
    worth = 1
    for at in range(start, len(text)):
        last = LAST_DIGITS.find(text[at])
        # A last digit 0 is the code of 0 alone: else one number had many codes.
        if last > 0 or (last == 0 and at == start):
            return number + last * worth, at + 1
        digit = DIGITS_AHEAD.find(text[at])
        if digit < 0:
            raise NoCode(at)
        number += digit * worth
        worth *= 16
    raise NoCode(len(text))


def read_numbers(text, at, many):
    """So many numbers, coded from a place of a text on, and the place behind them."""
    numbers = []
    while len(numbers) < many:
        number, at = read_number(text, at)
        numbers.append(number)
    return numbers, at
