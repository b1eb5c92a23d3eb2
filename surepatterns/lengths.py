"""Sure lengths, and occurrences in every word that is long enough (point 14)."""

from surepatterns.alphabet import SMALL, distinct
from surepatterns.chains import shortest_chain
from surepatterns.embedding import occurrence_by_chain
from surepatterns.errors import NotSure, TooLarge, TooShort
from surepatterns.integers import need_integer
from surepatterns.patterns import need_pattern, need_word
from surepatterns.standard import standard_word

LAST_NUMBER = 10
MOST_LETTERS = 26
MOST_DIGITS = 1000


def sure_length(number, letters):
    """The sure length for a number and a number of letters."""
    need_integer(number, 1, LAST_NUMBER)
    need_integer(letters, 1, MOST_LETTERS)
    length = 1
    for _ in range(number - 1):
        length = (length + 1) * (_power(letters, length) + 1) - 1
    if _has_too_many_digits(length):
        raise TooLarge("the result has more than 1000 digits")
    return length


def sure_occurrence(pattern, word):
    """An occurrence of a sure pattern in a word that is long enough."""
    need_pattern(pattern)
    need_word(word)
    chain = shortest_chain(pattern)
    if chain is None:
        raise NotSure("the pattern has no chain")
    number = len(chain)
    if not _is_long_enough(word, number):
        raise TooShort("the word has fewer letters than the sure length")
    first, words = _standard_occurrence(word, number, len(distinct(word)))
    start, end, assignment = occurrence_by_chain(pattern, chain)
    before = _put_in(standard_word(number)[:start], words)
    value = _put_in(standard_word(number)[start:end], words)
    begin = first + len(before)
    return (begin, begin + len(value), tuple([_put_in(part, words) for part in assignment]))


def _power(base, exponent):
    # Since 2 ** 4 is greater than 10, such a power has too many digits; some would take too long to work out.
    if base > 1 and exponent > 4 * MOST_DIGITS:
        raise TooLarge("the result has more than 1000 digits")
    power = 1
    for _ in range(exponent):
        power = power * base
    return power


def _has_too_many_digits(number):
    digits = 0
    rest = number
    while rest > 0:
        digits += 1
        rest = rest // 10
    return digits > MOST_DIGITS


def _is_long_enough(word, number):
    if word == "":
        return False
    try:
        return len(word) >= sure_length(number, len(distinct(word)))
    except TooLarge:
        return False


def _standard_occurrence(word, number, letters):
    """The start of an occurrence of the standard pattern with a number, and its words."""
    if number == 1:
        return 0, [word[0]]
    size = sure_length(number - 1, letters)
    left, right = _equal_blocks(word, size)
    start, words = _standard_occurrence(word[left:left + size], number - 1, letters)
    value = _put_in(standard_word(number - 1), words)
    between = word[left + start + len(value):right + start]
    return left + start, words + [between]


def _equal_blocks(word, size):
    """The places of two equal blocks of a size with at least one letter between them."""
    places = {}
    for place in range(0, len(word) - size + 1, size + 1):
        block = word[place:place + size]
        if block in places:
            break
        places[block] = place
    return places[block], place


def _put_in(standard, words):
    """A part of a standard word with words in the places of its letters."""
    return "".join([words[SMALL.index(letter)] for letter in standard])
