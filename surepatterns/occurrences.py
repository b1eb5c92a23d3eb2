"""Occurrences of patterns in words (point 6)."""

from surepatterns.errors import TooLong
from surepatterns.integers import need_integer
from surepatterns.laying import Laying
from surepatterns.patterns import need_pattern, need_word

LONGEST = 24
LONGEST_TO_COUNT = 16
MOST_OCCURRENCES = 300


def occurrences_at(pattern, word, start):
    """The ascending list of all occurrences that begin at an index."""
    laying = _laying(pattern, word, LONGEST)
    need_integer(start, 0, len(word))
    found = laying.listed(start, MOST_OCCURRENCES)
    return [(start, end, assignment) for end, assignment in sorted(found)]


def first_occurrence(pattern, word):
    """The least occurrence, or None."""
    laying = _laying(pattern, word, LONGEST)
    for start in range(len(word) - len(pattern) + 1):
        if laying.fits(start):
            end, assignment = laying.least(start)
            return (start, end, assignment)
    return None


def meets(pattern, word):
    """Tell whether the word meets the pattern."""
    laying = _laying(pattern, word, LONGEST)
    for start in range(len(word) - len(pattern) + 1):
        if laying.fits(start):
            return True
    return False


def count_occurrences(pattern, word):
    """The number of all occurrences."""
    laying = _laying(pattern, word, LONGEST_TO_COUNT)
    return sum([laying.count(start) for start in range(len(word) - len(pattern) + 1)])


def _laying(pattern, word, longest):
    need_pattern(pattern)
    need_word(word)
    if len(word) > longest:
        raise TooLong(f"the word has more than {longest} letters")
    return Laying(pattern, word)
