"""Whole numbers: ints that are no truths."""


def is_whole(thing):
    """Whether a thing is a whole number."""
    return isinstance(thing, int) and not isinstance(thing, bool)


def is_within(thing, least, most):
    """Whether a thing is a whole number from the least to the most."""
    return is_whole(thing) and least <= thing <= most
