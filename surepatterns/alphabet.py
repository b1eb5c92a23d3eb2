"""The letters of patterns and of words."""

CAPITALS = "ABCDEFGHIJKLMNOPQRSTUVWXYZ"
SMALL = "abcdefghijklmnopqrstuvwxyz"


def has_only(text, letters):
    """Tell whether each character of a text is one of the letters."""
    for character in text:
        if character not in letters:
            return False
    return True


def distinct(text):
    """The different characters of a text, in the order of their first occurrences."""
    found = ""
    for character in text:
        if character not in found:
            found += character
    return found
