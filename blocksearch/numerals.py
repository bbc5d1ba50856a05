"""Numerals: numbers as figures without noughts ahead."""

FIGURES = "0123456789"


def number_in(text, most):
    """The number that a text of at most so many figures tells, without noughts ahead; None of another text."""
    if not 1 <= len(text) <= most or not all([sign in FIGURES for sign in text]):
        return None
    if len(text) > 1 and text[0] == "0":
        return None
    return int(text)
