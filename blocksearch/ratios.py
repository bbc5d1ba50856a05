"""Ratios: exact numbers, a whole one over another, in lowest terms."""

from blocksearch.copies import own_copy
from blocksearch.errors import NoNumber, NoRatio
from blocksearch.wholes import is_whole

# The least whole number of more than three hundred figures.
TOO_GREAT = (10 ** 60) ** 5
FIGURES_AT_ONCE = 60
ONE_BEYOND = 10 ** 60


class Ratio:
    """A top over a bottom, in lowest terms, the bottom above 0."""

    def __init__(self, top, bottom=1):
        check_figures(top)
        check_figures(bottom)
        if bottom == 0:
            raise NoRatio("the bottom is 0")
        self.top, self.bottom = lowest(top, bottom)

    def __eq__(self, other):
        return isinstance(other, Ratio) and self.top == other.top and self.bottom == other.bottom

    def __str__(self):
        if self.bottom == 1:
            return f"{figures_of(self.top)}"
        return f"{figures_of(self.top)}/{figures_of(self.bottom)}"

    def __repr__(self):
        return f"Ratio({figures_of(self.top)}, {figures_of(self.bottom)})"

    def plus(self, other):
        """This ratio and another one together."""
        return ratio_of(self.top * other.bottom + other.top * self.bottom, self.bottom * other.bottom)

    def times(self, other):
        """This ratio and another one multiplied."""
        return ratio_of(self.top * other.top, self.bottom * other.bottom)

    def is_less(self, other):
        """Whether this ratio is less than another one."""
        return self.top * other.bottom < other.top * self.bottom


def total(ratios):
    """The sum of a list of ratios."""
    together = Ratio(0)
    for ratio in ratios:
        together = together.plus(ratio)
    return together


def greatest(ratios, *, default=None):
    """The greatest of a list of ratios, of none the default."""
    if not ratios:
        return own_copy(default)
    most = ratios[0]
    for ratio in ratios:
        if most.is_less(ratio):
            most = ratio
    return most


def ratio_of(top, bottom):
    """The ratio of a top and a bottom that come of others, of however many figures."""
    ratio = Ratio(0)
    ratio.top, ratio.bottom = lowest(top, bottom)
    return ratio


def lowest(top, bottom):
    """The lowest terms of a top and a bottom, the bottom above 0."""
    divisor, rest = abs(bottom), abs(top)
    while rest > 0:
        divisor, rest = rest, divisor % rest
    if bottom < 0:
        divisor = -divisor
    return top // divisor, bottom // divisor


def check_figures(number):
    """Refuse what is no whole number of at most three hundred figures."""
    if not is_whole(number) or abs(number) >= TOO_GREAT:
        raise NoNumber("this is no whole number of at most three hundred figures")


def figures_of(number):
    """The text of a whole number, some figures at once: Python's own way refuses very long ones."""
    texts = []
    rest = abs(number)
    while rest >= ONE_BEYOND:
        rest, part = divmod(rest, ONE_BEYOND)
        texts.append(str(part).zfill(FIGURES_AT_ONCE))
    texts.append(str(rest))
    return ("-" if number < 0 else "") + "".join(reversed(texts))
