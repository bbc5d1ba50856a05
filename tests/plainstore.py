"""The plain reading of a store: lists of pages, and what each deed tells or is refused with."""

from blocksearch.pages import Page


class PlainStore:
    """Points 31 to 37, read word for word: numbers and texts in lists, no segments."""

    def __init__(self):
        self.hand = []
        # For each segment its pages by slots, as lists [number, text, stands].
        self.row = []
        self.deeds = []

    def standing(self):
        return [(one, text) for one, text in self.hand] + [
            (one, text) for segment in self.row for one, text, stands in segment if stands]

    def pages(self):
        return [Page(number, text) for number, text in self.standing()]

    def sealed_pages(self):
        return [Page(number, text) for segment in self.row for number, text, stands in segment if stands]

    def numbers(self):
        return sorted(number for number, text in self.standing())

    def go(self, number):
        self.hand = [one for one in self.hand if one[0] != number]
        for segment in self.row:
            for one in segment:
                if one[0] == number:
                    one[2] = False

    def put_refused(self, number, anew):
        """The name and the field of what a put is refused with, None if of nothing."""
        if number in self.numbers() and not anew:
            return "Taken", number
        if len(self.row) > 7:
            return "Full", 7
        if len([one for one, text in self.hand if one != number]) + 1 > 60:
            return "Full", 60
        if len([one for one in self.numbers() if one != number]) + 1 > 120:
            return "Full", 120
        return None

    def put(self, number, text, anew=False):
        refused = self.put_refused(number, anew)
        self.deeds.append(("put", refused is None))
        if refused is None:
            self.go(number)
            self.hand.append((number, text))
        return refused

    def put_all(self, pages, anew=False):
        twin = PlainStore()
        twin.hand, twin.row = list(self.hand), [[list(one) for one in segment] for segment in self.row]
        refused = None
        for at, (number, text) in enumerate(pages):
            if twin.put(number, text, anew):
                refused = "Broken", at
                break
        self.deeds.append(("put_all", refused is None))
        if refused is None:
            self.hand, self.row = twin.hand, twin.row
        return refused

    def drop(self, number):
        done = number in self.numbers()
        self.deeds.append(("drop", done))
        if not done:
            return "Gone", number
        self.go(number)
        return None

    def seal(self):
        """What it is refused with, and what it tells."""
        if self.hand and len(self.row) >= 7:
            self.deeds.append(("seal", False))
            return ("Full", 7), None
        self.deeds.append(("seal", True))
        if not self.hand:
            return None, False
        self.row.append([[number, text, True] for number, text in sorted(self.hand)])
        self.hand = []
        return None, True

    def merge(self, at, many):
        """What it is refused with, and the moves."""
        self.deeds.append(("merge", False))
        if at < 0 or many < 1 or at + many > len(self.row):
            return ("NoSize", None), None
        stood = [(number, text, which, slot) for which, segment in enumerate(self.row[at:at + many])
                 for slot, (number, text, stands) in enumerate(segment) if stands]
        if len(stood) > 60:
            return ("Full", 60), None
        self.deeds[-1] = ("merge", True)
        new = sorted(stood)
        moves = [(which, slot, new.index((number, text, which, slot))) for number, text, which, slot in stood]
        self.row[at:at + many] = [[[one[0], one[1], True] for one in new]] if new else []
        return None, moves

    def gone(self):
        """For each segment the slots that are gone."""
        return [[slot for slot, one in enumerate(segment) if not one[2]] for segment in self.row]
