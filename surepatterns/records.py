"""The judge of records (point 28)."""

from surepatterns.cuts import is_cut_list
from surepatterns.factors import is_factor_list
from surepatterns.integers import is_integer_from
from surepatterns.pieces import capitals_of, put_in
from surepatterns.reading import reading_of
from surepatterns.rules import LAST_PLACE, is_rule_word, need_rule, word_of
from surepatterns.shapes import is_rule_shape
from surepatterns.ways import is_closed_list, leads_to_factor
from surepatterns.wrongs import NotARecord

ENTRIES = {"factors": 4, "cuts": 4, "uncut": 5, "way": 4, "closed": 4, "far": 5}
LONGEST_LISTED = 16
LONGEST_UNCUT = 12


def judge(record):
    """The tuple ("right",), or ("wrong", k) with the number k of the first condition that does not hold."""
    if not _has_form(record):
        raise NotARecord("a record is a tuple of one of the six forms")
    need_rule(record[1])
    number = _first_wrong(record)
    return ("right",) if number is None else ("wrong", number)


def _has_form(value):
    if not isinstance(value, tuple) or value == () or not isinstance(value[0], str):
        return False
    return value[0] in ENTRIES and len(value) == ENTRIES[value[0]]


def _first_wrong(record):
    """The number of the first condition that does not hold, or None."""
    kind, rule = record[0], record[1]
    if kind == "factors":
        return _wrong_factors(rule, record[2], record[3])
    if kind == "cuts":
        return _wrong_cuts(rule, record[2], record[3])
    if kind == "uncut":
        return _wrong_uncut(rule, record[2], record[3], record[4])
    if kind == "far":
        return _wrong_far(rule, record[2], record[3], record[4])
    reading = reading_of(rule)
    if not is_rule_shape(rule, record[2]):
        return 0
    if kind == "way":
        return None if leads_to_factor(reading, record[2], record[3]) else 1
    if not is_closed_list(reading, record[3]):
        return 1
    return None if record[2] in record[3] else 2


def _wrong_factors(rule, length, words):
    if not is_integer_from(length, 1, LONGEST_LISTED):
        return 0
    return None if is_factor_list(rule, length, words) else 1


def _wrong_cuts(rule, length, rows):
    if not is_integer_from(length, 1, LONGEST_LISTED):
        return 0
    if not is_cut_list(rule, length, rows):
        return 1
    cuts = dict(rows)
    return None if [word for word, cut in rows if cuts[word] != cut] == [] else 2


def _wrong_uncut(rule, word, place, other):
    if not is_rule_word(rule, word) or not 1 <= len(word) <= LONGEST_UNCUT:
        return 0
    if not is_integer_from(place, 0, LAST_PLACE) or not is_integer_from(other, 0, LAST_PLACE):
        return 1
    if (place - other) % len(rule[0]) == 0:
        return 2
    return None if _stands(rule, word, place) and _stands(rule, word, other) else 3


def _wrong_far(rule, shape, place, words):
    if not is_rule_shape(rule, shape):
        return 0
    if not is_integer_from(place, 0, LAST_PLACE):
        return 1
    if not _are_words(rule, shape, words):
        return 2
    whole = put_in(shape, dict(zip(capitals_of(shape), words)))
    return None if _stands(rule, whole, place) else 3


def _are_words(rule, shape, value):
    if not isinstance(value, tuple) or len(value) != len(capitals_of(shape)):
        return False
    return [word for word in value if not is_rule_word(rule, word) or word == ""] == []


def _stands(rule, word, place):
    return word_of(rule, place, len(word)) == word
