"""Patterns, words, assignments and values (points 4 and 5)."""

from surepatterns.alphabet import CAPITALS, SMALL, distinct, has_only
from surepatterns.errors import InvalidAssignment, InvalidPattern, InvalidWord, TooLong

LONGEST_PATTERN = 20
MOST_LETTERS = 7
LONGEST_WORD = 200


def is_pattern(value):
    """Tell whether any value is a pattern."""
    if not isinstance(value, str) or not 1 <= len(value) <= LONGEST_PATTERN:
        return False
    return has_only(value, CAPITALS) and len(distinct(value)) <= MOST_LETTERS


def is_word(value):
    """Tell whether any value is a word."""
    return isinstance(value, str) and len(value) <= LONGEST_WORD and has_only(value, SMALL)


def need_pattern(value):
    """Raise InvalidPattern if any value is not a pattern."""
    if not is_pattern(value):
        raise InvalidPattern("a pattern has 1 to 20 capital letters, at most 7 different ones")


def need_word(value):
    """Raise InvalidWord if any value is not a word."""
    if not is_word(value):
        raise InvalidWord("a word has 0 to 200 small letters")


def letters_of(pattern):
    """The different letters of a pattern, in the order of their first occurrences."""
    need_pattern(pattern)
    return distinct(pattern)


def normal_form(pattern):
    """The pattern with its letters renamed to A, B, C and so on."""
    need_pattern(pattern)
    return in_normal_form(pattern)


def in_normal_form(pattern):
    """The normal form of what is known to be a pattern, or of the empty string."""
    letters = distinct(pattern)
    return "".join([CAPITALS[letters.index(letter)] for letter in pattern])


def is_assignment(pattern, value):
    """Tell whether any value is an assignment for a pattern."""
    if not isinstance(value, tuple) or len(value) != len(distinct(pattern)):
        return False
    for word in value:
        if not is_word(word) or word == "":
            return False
    return True


def value_of(pattern, assignment):
    """The value of a pattern under an assignment, a word."""
    need_pattern(pattern)
    if not is_assignment(pattern, assignment):
        raise InvalidAssignment("an assignment has one nonempty word for each different letter")
    value = put_together(pattern, assignment)
    if len(value) > LONGEST_WORD:
        raise TooLong("the value has more than 200 letters")
    return value


def put_together(pattern, assignment):
    """The value, of any length, where the pattern and the assignment are known to be right."""
    letters = distinct(pattern)
    return "".join([assignment[letters.index(letter)] for letter in pattern])
