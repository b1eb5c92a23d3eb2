"""Joined ends and beginnings, and free sets (points 7 and 8)."""

from surepatterns.alphabet import distinct
from surepatterns.errors import InvalidLetters
from surepatterns.patterns import letters_of, need_pattern


def joined(pattern):
    """The ascending list of the components, tuples of letters with ends and letters with beginnings."""
    letters = sorted(letters_of(pattern))
    of_end = {letter: place for place, letter in enumerate(letters)}
    of_beginning = {letter: len(letters) + place for place, letter in enumerate(letters)}
    for left, right in zip(pattern, pattern[1:]):
        old = of_beginning[right]
        new = of_end[left]
        of_end = _renumbered(of_end, old, new)
        of_beginning = _renumbered(of_beginning, old, new)
    numbers = range(2 * len(letters))
    components = [(_numbered(of_end, number), _numbered(of_beginning, number)) for number in numbers]
    return sorted([component for component in components if component != ("", "")])


def is_free(pattern, letters):
    """Tell whether a set of letters is free in a pattern."""
    need_letters(pattern, letters)
    return _is_free_among(joined(pattern), letters)


def free_sets(pattern):
    """The list of all free sets, the shorter ones first, those of one length in ascending order."""
    components = joined(pattern)
    single = [letter for letter in sorted(distinct(pattern)) if _is_free_among(components, letter)]
    found = []
    level = single
    # A set without its last letter is free, too, so every free set grows out of a smaller one.
    while level != []:
        found.extend(level)
        level = [
            letters + letter
            for letters in level
            for letter in single
            if letter > letters[-1] and _is_free_among(components, letters + letter)
        ]
    return found


def is_letter_set(pattern, value):
    """Tell whether any value is a nonempty set of letters of a pattern, written in order."""
    if not isinstance(value, str) or value == "":
        return False
    return list(value) == [letter for letter in sorted(distinct(pattern)) if letter in value]


def need_letters(pattern, value):
    """Raise InvalidPattern, or InvalidLetters if any value is not a set of letters of the pattern."""
    need_pattern(pattern)
    if not is_letter_set(pattern, value):
        raise InvalidLetters("a set has letters of the pattern, in alphabetical order, each once")


def _renumbered(numbers, old, new):
    return {letter: new if numbers[letter] == old else numbers[letter] for letter in numbers}


def _numbered(numbers, number):
    return "".join([letter for letter in numbers if numbers[letter] == number])


def _is_free_among(components, letters):
    for ends, beginnings in components:
        if _share(ends, letters) and _share(beginnings, letters):
            return False
    return True


def _share(first, second):
    for letter in first:
        if letter in second:
            return True
    return False
