"""Words that do not meet a pattern (point 15)."""

from surepatterns.alphabet import SMALL
from surepatterns.integers import need_integer
from surepatterns.laying import Laying
from surepatterns.patterns import need_pattern

MOST_LETTERS = 3
LONGEST_LISTED = 7
LONGEST_LEAST = 10


def avoiding_words(pattern, letters, length):
    """The ascending list of all words of a length over so many letters that avoid the pattern."""
    _need(pattern, letters, length, LONGEST_LISTED)
    words = [""]
    # A word that avoids the pattern without its last letter avoids it, too, so only such words are extended.
    for _ in range(length):
        longer = [word + letter for word in words for letter in SMALL[:letters]]
        words = [word for word in longer if not _meets_at_end(pattern, word)]
    return words


def count_avoiding(pattern, letters, length):
    """The number of these words."""
    return len(avoiding_words(pattern, letters, length))


def least_avoiding(pattern, letters, length):
    """The least word of a length over so many letters that avoids the pattern, or None."""
    _need(pattern, letters, length, LONGEST_LEAST)
    return _least_from("", pattern, letters, length)


def _need(pattern, letters, length, longest):
    need_pattern(pattern)
    need_integer(letters, 1, MOST_LETTERS)
    need_integer(length, 0, longest)


def _least_from(word, pattern, letters, length):
    """The least word that begins with this one, which avoids the pattern, or None."""
    if len(word) == length:
        return word
    for letter in SMALL[:letters]:
        if not _meets_at_end(pattern, word + letter):
            found = _least_from(word + letter, pattern, letters, length)
            if found is not None:
                return found
    return None


def _meets_at_end(pattern, word):
    """Tell whether an occurrence ends where the word ends: read backwards, it begins there."""
    return Laying(pattern[::-1], word[::-1]).fits(0)
