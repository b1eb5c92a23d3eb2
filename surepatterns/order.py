"""The order of patterns, sure patterns of a length, standard patterns (point 16)."""

from surepatterns.alphabet import CAPITALS, distinct
from surepatterns.chains import without
from surepatterns.integers import need_integer
from surepatterns.joins import free_sets
from surepatterns.occurrences import meets
from surepatterns.patterns import in_normal_form, need_pattern
from surepatterns.standard import standard_word

LONGEST_LISTED = 7
LAST_NUMBER = 4


def contains(first, second):
    """Tell whether the first pattern contains the second one."""
    need_pattern(first)
    return meets(second, first.lower())


def sure_patterns(length):
    """The ascending list of the normal forms of all sure patterns of a length."""
    need_integer(length, 1, LONGEST_LISTED)
    patterns = ["A"]
    known = {"": True, "A": True}
    # A sure pattern without its last letter is sure, too, so only sure ones are extended.
    for _ in range(length - 1):
        longer = [pattern + letter for pattern in patterns for letter in CAPITALS[:len(distinct(pattern)) + 1]]
        patterns = [pattern for pattern in longer if _comes_to(pattern, known)]
        known.update({pattern: True for pattern in patterns})
    return patterns


def standard_pattern(number):
    """The standard pattern with this number."""
    need_integer(number, 1, LAST_NUMBER)
    return standard_word(number).upper()


def _comes_to(pattern, known):
    """Tell whether the deletion of a free set leaves a pattern with one of the known normal forms, or nothing.

    If all sure patterns with fewer letters are known, this tells whether the pattern is sure.
    """
    for letters in free_sets(pattern):
        if in_normal_form(without(pattern, letters)) in known:
            return True
    return False
