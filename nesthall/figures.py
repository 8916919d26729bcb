"""Figures: how a number is written, and read again."""

from nesthall.errors import NoWords

FIGURES = "0123456789"


def written(number):
    """The text that is written of the number."""
    return str(number)


def read_number(text):
    """The number of which the text is written; NoWords where it is that of none."""
    bare = text[1:] if text.startswith("-") else text
    if bare == "" or not all([sign in FIGURES for sign in bare]):
        raise NoWords("the text is not of figures alone")
    if bare.startswith("0") and text != "0":
        raise NoWords("the text has a nought ahead, or a sign ahead of nought")
    number = 0
    # Python's own reading breaks off at some thousand figures, where a bound may still tell a refusal.
    for sign in bare:
        number = number * 10 + FIGURES.index(sign)
    return -number if text.startswith("-") else number
