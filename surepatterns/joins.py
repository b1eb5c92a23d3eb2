"""Joined ends and beginnings, and free sets (points 7 and 8)."""

from surepatterns.alphabet import distinct
from surepatterns.errors import InvalidLetters
from surepatterns.patterns import letters_of, need_pattern


def joined(pattern):
    """The ascending list of the components, tuples of letters with ends and letters with beginnings."""
    of_end, of_beginning = _component_numbers(pattern)
    numbers = sorted(set(list(of_end.values()) + list(of_beginning.values())))
    return sorted([(_numbered(of_end, number), _numbered(of_beginning, number)) for number in numbers])


def is_free(pattern, letters):
    """Tell whether a set of letters is free in a pattern."""
    need_letters(pattern, letters)
    of_end, of_beginning = _component_numbers(pattern)
    beginnings = [of_beginning[letter] for letter in letters]
    return [letter for letter in letters if of_end[letter] in beginnings] == []


def free_sets(pattern):
    """The list of all free sets, the shorter ones first, those of one length in ascending order."""
    of_end, of_beginning = _component_numbers(pattern)
    found = []
    # A set without its last letter is free, too, so every free set grows out of a smaller one. The numbers
    # of the components of its ends and of its beginnings are kept as bits.
    level = [("", 0, 0)]
    while level != []:
        longer = [
            (letters + letter, ends | 1 << of_end[letter], beginnings | 1 << of_beginning[letter])
            for letters, ends, beginnings in level
            for letter in of_end
            if letter > letters[-1:]
        ]
        level = [row for row in longer if row[1] & row[2] == 0]
        found.extend([row[0] for row in level])
    return found


def is_letter_set(pattern, value):
    """Tell whether any value is a nonempty set of letters of a pattern, written in order."""
    if not isinstance(value, str) or value == "":
        return False
    return list(value) == [letter for letter in sorted(distinct(pattern)) if letter in value]


def need_letters(pattern, value):
    """Raise InvalidPattern, or InvalidLetters if any value is not a set of letters of the pattern."""
    need_pattern(pattern)
    if not is_letter_set(pattern, value):
        raise InvalidLetters("a set has letters of the pattern, in alphabetical order, each once")


def _component_numbers(pattern):
    """The numbers of the components of the ends and of the beginnings, two dicts over the sorted letters."""
    letters = sorted(letters_of(pattern))
    of_end = {letter: place for place, letter in enumerate(letters)}
    of_beginning = {letter: len(letters) + place for place, letter in enumerate(letters)}
    for left, right in zip(pattern, pattern[1:]):
        old = of_beginning[right]
        new = of_end[left]
        if old != new:
            of_end = _renumbered(of_end, old, new)
            of_beginning = _renumbered(of_beginning, old, new)
    return of_end, of_beginning


def _renumbered(numbers, old, new):
    return {letter: new if numbers[letter] == old else numbers[letter] for letter in numbers}


def _numbered(numbers, number):
    return "".join([letter for letter in numbers if numbers[letter] == number])
