"""The errors of blocksearch: one class for each kind of refusal.

A field that tells a place is None where what was handed in has no places.
"""


class Wrong(ValueError):
    """What was handed in is not what is due."""


class NoWord(Wrong):
    """What was handed in is no word."""


class NoText(Wrong):
    """What was handed in is no text of words, or no list of them."""


class NoNumber(Wrong):
    """What was handed in is no whole number, or none within its bounds."""


class NoSize(Wrong):
    """What was handed in is no size within its bounds."""


class NoLengths(Wrong):
    """What was handed in is no list of lengths of pages."""


class NoQuery(Wrong):
    """What was handed in is no query."""


class NoName(Wrong):
    """What was handed in is no name of a file."""


class NoCode(Wrong):
    """What was handed in is no code."""

    def __init__(self, at=None):
        super().__init__(f"no code, wrong at {at}")
        self.at = at


class NoRow(Wrong):
    """What was handed in is no list of numbers as is due."""

    def __init__(self, at=None):
        super().__init__(f"no row of numbers, wrong at {at}")
        self.at = at


class NoEntries(Wrong):
    """What was handed in is no list of entries."""

    def __init__(self, at=None):
        super().__init__(f"no entries, wrong at {at}")
        self.at = at


class NoQueryText(Wrong):
    """What was handed in is the text of no query."""

    def __init__(self, at=None):
        super().__init__(f"no text of a query, wrong at {at}")
        self.at = at


class NoPages(Wrong):
    """What was handed in is no list of pages of unlike numbers."""

    def __init__(self, at=None):
        super().__init__(f"no pages, wrong at {at}")
        self.at = at


class NoQueries(Wrong):
    """What was handed in is no list of queries."""

    def __init__(self, at=None):
        super().__init__(f"no queries, wrong at {at}")
        self.at = at


class NoShelf(Wrong):
    """What was handed in is no shelf."""

    def __init__(self, at=None):
        super().__init__(f"no shelf, wrong at {at}")
        self.at = at


class NoDeed(Wrong):
    """What was handed in has a pick that is none."""

    def __init__(self, at=None):
        super().__init__(f"no deed, wrong at {at}")
        self.at = at


class Taken(Wrong):
    """A page of this number stands."""

    def __init__(self, number=None):
        super().__init__("a page of this number stands")
        self.number = number


class NoPlace(IndexError):
    """A walker behind the end has no places."""


class NoSlot(IndexError):
    """What was handed in is no slot."""


class NoRatio(ZeroDivisionError):
    """The bottom of a ratio is 0."""


class Gone(KeyError):
    """No page of this number stands."""

    def __init__(self, number=None):
        # The thing itself is not shown: it may be of any kind and very long.
        super().__init__("no page of this number stands")
        self.number = number


class Held(KeyError):
    """This number is held."""

    def __init__(self, number=None):
        super().__init__("this number is held")
        self.number = number


class NoFile(LookupError):
    """No file has this name."""

    def __init__(self, name=None):
        super().__init__("no file has this name")
        self.name = name


class Torn(RuntimeError):
    """The file of this name is torn."""

    def __init__(self, name=None):
        super().__init__("the file of this name is torn")
        self.name = name


class Broken(RuntimeError):
    """One deed of several was refused."""

    def __init__(self, at=None):
        super().__init__(f"refused at {at}")
        self.at = at


class Full(OverflowError):
    """There is no room beyond so many."""

    def __init__(self, many=None):
        super().__init__(f"no room beyond {many}")
        self.many = many
