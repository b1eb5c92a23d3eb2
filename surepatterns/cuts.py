"""Cuts of factors, the delay of a rule and its short words (point 21)."""

from surepatterns.factors import standing_in_images
from surepatterns.integers import is_integer_from, need_integer
from surepatterns.lineage import LAST_DELAY, Lineage
from surepatterns.reading import reading_of
from surepatterns.rules import is_rule_word, need_rule, need_rule_word, rule_start

LONGEST_LISTED = 16


def cuts_of(rule, word):
    """The ascending list of the cuts of a word, [] if it is no factor."""
    need_rule(rule)
    need_rule_word(rule, word)
    lineage = Lineage(rule)
    return [cut for cut in range(len(rule[0])) if word == "" or lineage.place_with_cut(word, cut) is not None]


def cut_list(rule, length):
    """The ascending list of all tuples (word, cut) of a factor with a length and one of its cuts."""
    need_rule(rule)
    need_integer(length, 1, LONGEST_LISTED)
    return Lineage(rule).cut_list(length)


def is_cut_list(rule, length, value):
    """Tell whether any value is a closed list of tuples (word, cut) with words of a length."""
    need_rule(rule)
    need_integer(length, 1, LONGEST_LISTED)
    if not isinstance(value, list):
        return False
    rows = {}
    words = {}
    for row in value:
        if not _is_cut_row(rule, length, row):
            return False
        rows[row] = True
        words[row[0]] = True
    if (rule_start(rule, length), 0) not in rows:
        return False
    return [row for row in standing_in_images(rule, words, length) if row not in rows] == []


def delay_of(rule):
    """The delay, or None."""
    need_rule(rule)
    return Lineage(rule).delay()


def two_places(rule, length):
    """A factor of a length and two places with different cuts at which it stands, or None."""
    need_rule(rule)
    need_integer(length, 1, LAST_DELAY)
    lineage = Lineage(rule)
    rows = lineage.cut_list(length)
    for (word, cut), (other_word, other_cut) in zip(rows, rows[1:]):
        if word == other_word:
            return (word, lineage.place_with_cut(word, cut), lineage.place_with_cut(word, other_cut))
    return None


def short_words(rule):
    """The ascending list of the short words of a rule with a delay."""
    reading = reading_of(rule)
    longest = reading.lineage.factors(reading.reach - 1)
    return sorted(set([word[:size] for word in longest for size in range(1, reading.reach)]))


def _is_cut_row(rule, length, value):
    if not isinstance(value, tuple) or len(value) != 2:
        return False
    is_word = is_rule_word(rule, value[0]) and len(value[0]) == length
    return is_word and is_integer_from(value[1], 0, len(rule[0]) - 1)
