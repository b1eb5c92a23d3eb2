"""Factors of rules, and closed lists of words (point 20)."""

from surepatterns.integers import need_integer
from surepatterns.lineage import Lineage
from surepatterns.rules import image, is_rule_word, need_rule, need_rule_word, rule_start

LONGEST_LISTED = 16


def factors_of(rule, length):
    """The ascending list of all factors with a length."""
    need_rule(rule)
    need_integer(length, 0, LONGEST_LISTED)
    return Lineage(rule).factors(length)


def is_factor(rule, word):
    """Tell whether a word is a factor."""
    return factor_place(rule, word) is not None


def factor_place(rule, word):
    """The least place at which a word stands, or None."""
    need_rule(rule)
    need_rule_word(rule, word)
    return Lineage(rule).place(word)


def is_factor_list(rule, length, value):
    """Tell whether any value is a closed list of words of a length."""
    need_rule(rule)
    need_integer(length, 1, LONGEST_LISTED)
    if not isinstance(value, list):
        return False
    words = {}
    for word in value:
        if not is_rule_word(rule, word) or len(word) != length:
            return False
        words[word] = True
    if rule_start(rule, length) not in words:
        return False
    return [word for word, _ in standing_in_images(rule, words, length) if word not in words] == []


def standing_in_images(rule, words, length):
    """The words of a length in the images of words of this length, with the remainders of their indexes."""
    size = len(rule[0])
    # No word of this length reaches into the images of more letters.
    reached = (length + size - 2) // size + 1
    parts = sorted(set([word[at:at + reached] for word in words for at in range(length - reached + 1)]))
    texts = [image(rule, part) for part in parts]
    return [(text[at:at + length], at % size) for text in texts for at in range(len(text) - length + 1)]
