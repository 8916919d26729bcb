"""Words: the texts by which things are named and said."""

SMALL_LETTERS = "abcdefghijklmnopqrstuvwxyz"
LONGEST = 12


def is_word(text):
    """Whether the text is one to twelve small letters."""
    return 1 <= len(text) <= LONGEST and all([sign in SMALL_LETTERS for sign in text])
