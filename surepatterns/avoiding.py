"""Words that do not meet a pattern (point 15)."""

from surepatterns.alphabet import SMALL, distinct
from surepatterns.integers import need_integer
from surepatterns.laying import Laying
from surepatterns.patterns import need_pattern

MOST_LETTERS = 3
LONGEST_LISTED = 7
LONGEST_LEAST = 10


def avoiding_words(pattern, letters, length):
    """The ascending list of all words of a length over so many letters that avoid the pattern."""
    _need(pattern, letters, length, LONGEST_LISTED)
    if length >= len(pattern) and _has_different_letters(pattern):
        return []
    words = [""]
    # A word that avoids the pattern without its last letter avoids it, too, so only such words are extended.
    for size in range(1, length + 1):
        words = [word + letter for word in words for letter in SMALL[:letters]]
        if size >= len(pattern) and words != []:
            layings = _layings(pattern, size)
            words = [word for word in words if not _fits(layings, word)]
    return words


def count_avoiding(pattern, letters, length):
    """The number of these words."""
    return len(avoiding_words(pattern, letters, length))


def least_avoiding(pattern, letters, length):
    """The least word of a length over so many letters that avoids the pattern, or None."""
    _need(pattern, letters, length, LONGEST_LEAST)
    if length >= len(pattern) and _has_different_letters(pattern):
        return None
    return _least_from("", pattern, letters, length)


def _need(pattern, letters, length, longest):
    need_pattern(pattern)
    need_integer(letters, 1, MOST_LETTERS)
    need_integer(length, 0, longest)


def _has_different_letters(pattern):
    """Tell whether no letter of the pattern comes twice; then each word that is not shorter meets it."""
    return len(distinct(pattern)) == len(pattern)


def _least_from(word, pattern, letters, length):
    """The least word that begins with this one, which avoids the pattern, or None."""
    if len(word) == length:
        return word
    # Letters may be renamed, so in the least word, and in the search for it, they come in their order.
    for letter in SMALL[:min(letters, len(distinct(word)) + 1)]:
        if not _meets_at_end(pattern, word + letter):
            found = _least_from(word + letter, pattern, letters, length)
            if found is not None:
                return found
    return None


def _meets_at_end(pattern, word):
    """Tell whether an occurrence ends where the word ends: read backwards, it begins there."""
    return len(word) >= len(pattern) and Laying(pattern[::-1], word[::-1]).fits(0)


def _layings(pattern, length):
    """The ways to lay a pattern along a word of a length so that it ends where the word ends.

    Each is a tuple of rows (place, other, size): there an occurrence ends if the parts of the word with this
    size at the two places are equal, for each row.
    """
    letters = distinct(pattern)
    counts = [pattern.count(letter) for letter in letters]
    found = {}
    for sizes in _sizes(counts, length):
        place = length - sum([count * size for count, size in zip(counts, sizes)])
        last = {}
        rows = []
        for letter in pattern:
            size = sizes[letters.index(letter)]
            if letter in last:
                rows.append((last[letter], place, size))
            last[letter] = place
            place += size
        found[tuple(rows)] = True
    return list(found)


def _sizes(counts, room):
    """All lists of sizes of words for letters that occur so often, where all together fit into the room."""
    rows = [([], room)]
    rest = sum(counts)
    for count in counts:
        rest -= count
        rows = [
            (sizes + [size], left - count * size)
            for sizes, left in rows
            for size in range(1, (left - rest) // count + 1)
        ]
    return [sizes for sizes, _ in rows]


def _fits(layings, word):
    """Tell whether one of the ways to lay the pattern along a word gives equal letters equal words."""
    for rows in layings:
        for place, other, size in rows:
            if word[place:place + size] != word[other:other + size]:
                break
        else:
            return True
    return False
