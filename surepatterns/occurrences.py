"""Occurrences of patterns in words (point 6)."""

from surepatterns.errors import TooLong, TooMany
from surepatterns.integers import need_integer
from surepatterns.laying import Laying
from surepatterns.patterns import need_pattern, need_word

LONGEST = 24
LONGEST_TO_COUNT = 16
MOST_OCCURRENCES = 300


def occurrences_at(pattern, word, start):
    """The ascending list of all occurrences that begin at an index."""
    laying = _laying(pattern, word, LONGEST)
    need_integer(start, 0, len(word))
    ends = laying.ends(start)
    if sum(ends.values()) > MOST_OCCURRENCES:
        raise TooMany("there are more than 300 occurrences at this index")
    return [
        (start, end, assignment)
        for end in sorted(ends)
        for assignment in laying.assignments(start, end)
    ]


def first_occurrence(pattern, word):
    """The least occurrence, or None."""
    laying = _laying(pattern, word, LONGEST)
    for start in range(len(word)):
        ends = sorted(laying.ends(start))
        if ends != []:
            return (start, ends[0], laying.least(start, ends[0]))
    return None


def meets(pattern, word):
    """Tell whether the word meets the pattern."""
    return first_occurrence(pattern, word) is not None


def count_occurrences(pattern, word):
    """The number of all occurrences."""
    laying = _laying(pattern, word, LONGEST_TO_COUNT)
    return sum([sum(laying.ends(start).values()) for start in range(len(word))])


def _laying(pattern, word, longest):
    need_pattern(pattern)
    need_word(word)
    if len(word) > longest:
        raise TooLong(f"the word has more than {longest} letters")
    return Laying(pattern, word)
