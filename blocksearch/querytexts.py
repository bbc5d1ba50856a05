"""Texts of queries: queries shown as texts, and texts read as queries."""

from blocksearch.errors import NoQueryText
from blocksearch.queries import MOST_ASKED, MOST_DEEP, MOST_FAR, MOST_JOINED, MOST_PHRASED, check_query
from blocksearch.words import MOST_LETTERS

SIGNS = {"and": "&", "or": "|", "but": "-"}
KINDS = {"&": "and", "|": "or", "-": "but"}
FIGURES = "0123456789"


def show(query):
    """The text of a query."""
    check_query(query)
    return shown(query)


def shown(query):
    """The text of what is a query, or a part of one."""
    kind = query[0]
    if kind == "word":
        return query[1]
    if kind == "phrase":
        return '"' + " ".join(query[1:]) + '"'
    if kind == "near":
        return f"{query[2]}~{query[1]}~{query[3]}"
    between = f" {SIGNS[kind]} "
    return "(" + between.join([shown(part) for part in query[1:]]) + ")"


def read(text):
    """The query whose text a text is."""
    if not isinstance(text, str):
        raise NoQueryText(None)
    reader = Reader(text)
    query = reader.read_query(1)
    if reader.at < len(text):
        raise NoQueryText(reader.at)
    return query


class Reader:
    """One who reads a query's text sign by sign, and stops at the first with which none could go on.

    `due` tells how many words the whole query has at least, by all that was
    read: a sign that asks for one more is wrong where there is no room for it.
    """

    def __init__(self, text):
        self.text = text
        self.at = 0
        self.due = 1

    def sign(self):
        """The sign that comes next; at the end the empty text, which is no sign."""
        return self.text[self.at:self.at + 1]

    def take(self, sign):
        """Go on behind the sign that must come next."""
        if self.sign() != sign:
            raise NoQueryText(self.at)
        self.at += 1

    def take_one_more(self, sign):
        """Go on behind a sign that asks for one more word."""
        if self.due == MOST_ASKED:
            raise NoQueryText(self.at)
        self.due += 1
        self.take(sign)

    def read_query(self, deep):
        """Read a query that stands so many queries deep."""
        if self.sign() == '"':
            return self.read_phrase()
        if self.sign() == "(" and deep < MOST_DEEP:
            return self.read_joined(deep)
        word = self.read_word()
        return self.read_near(word) if self.sign() == "~" else ("word", word)

    def read_word(self):
        """Read a word, as far as it may go."""
        start = self.at
        while self.at - start < MOST_LETTERS and "a" <= self.sign() <= "z":
            self.at += 1
        if self.at == start:
            raise NoQueryText(self.at)
        return self.text[start:self.at]

    def read_phrase(self):
        """Read a phrase."""
        self.take_one_more('"')
        words = [self.read_word()]
        self.take(" ")
        words.append(self.read_word())
        while len(words) < MOST_PHRASED and self.sign() == " ":
            self.take_one_more(" ")
            words.append(self.read_word())
        self.take('"')
        return ("phrase", *words)

    def read_near(self, word):
        """Read what is behind the first word of a near."""
        self.take_one_more("~")
        far = self.read_far()
        self.take("~")
        return ("near", far, word, self.read_word())

    def read_far(self):
        """Read how far a near may be: figures without a nought ahead."""
        far = 0
        while 1 <= far * 10 + self.figure() <= MOST_FAR:
            far = far * 10 + self.figure()
            self.at += 1
        if far == 0:
            raise NoQueryText(self.at)
        return far

    def figure(self):
        """The figure that comes next; if none comes, what is too far in any place."""
        sign = self.sign()
        return FIGURES.find(sign) if sign != "" and sign in FIGURES else MOST_FAR + 1

    def read_joined(self, deep):
        """Read an and, an or or a but that stands so many queries deep."""
        self.take_one_more("(")
        parts = [self.read_query(deep + 1)]
        self.take(" ")
        sign = self.sign()
        if sign not in KINDS:
            raise NoQueryText(self.at)
        self.take(sign)
        self.take(" ")
        parts.append(self.read_query(deep + 1))
        most = 2 if sign == "-" else MOST_JOINED
        while len(parts) < most and self.sign() == " ":
            self.take_one_more(" ")
            self.take(sign)
            self.take(" ")
            parts.append(self.read_query(deep + 1))
        self.take(")")
        return (KINDS[sign], *parts)
