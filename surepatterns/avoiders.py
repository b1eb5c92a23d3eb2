"""Rules whose words avoid a pattern (point 26)."""

from surepatterns.alphabet import SMALL
from surepatterns.errors import InvalidNumber
from surepatterns.integers import is_integer_from
from surepatterns.laying import Laying
from surepatterns.lineage import Lineage
from surepatterns.patterns import need_pattern
from surepatterns.reading import Reading, reading_of
from surepatterns.rules import start_of
from surepatterns.ways import way_and_shapes

LONGEST = {2: 4, 3: 2}
FIRST_PLACES = 12


def rules_of(letters, length):
    """The ascending list of all rules with a number of letters and a length."""
    _need_numbers(letters, length)
    words = [""]
    for _ in range(length):
        words = [word + letter for word in words for letter in SMALL[:letters]]
    rules = [(word,) for word in words if word[0] == "a"]
    for _ in range(letters - 1):
        rules = [rule + (word,) for rule in rules for word in words if word not in rule]
    return rules


def does_avoid(rule, pattern):
    """Tell whether the pattern has no occurrence in the rule word of a rule with a delay."""
    reading = reading_of(rule)
    need_pattern(pattern)
    return way_and_shapes(reading, pattern)[0] is None


def first_avoider(pattern, letters, length):
    """The first of these rules that has a delay and avoids the pattern, or None."""
    need_pattern(pattern)
    _need_numbers(letters, length)
    for rule in rules_of(letters, length):
        if not _occurs_soon(rule, pattern):
            lineage = Lineage(rule)
            delay = lineage.delay()
            if delay is not None and way_and_shapes(Reading(lineage, delay), pattern)[0] is None:
                return rule
    return None


def _occurs_soon(rule, pattern):
    """Tell whether one of the first places shows that the pattern has a way with one tuple."""
    # In so few letters each word of an occurrence has less than 2 L - 1 letters, and so is a short word.
    size = len(pattern) + 2 * len(rule[0]) - 3
    start = start_of(rule, FIRST_PLACES + size)
    for place in range(FIRST_PLACES):
        if Laying(pattern, start[place:place + size]).fits(0):
            return True
    return False


def _need_numbers(letters, length):
    if not is_integer_from(letters, 2, 3) or not is_integer_from(length, 2, LONGEST[letters]):
        raise InvalidNumber("2 letters with a length from 2 to 4, or 3 letters with the length 2, are needed")
