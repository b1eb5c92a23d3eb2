"""Standard words (point 10)."""

from surepatterns.alphabet import SMALL
from surepatterns.integers import need_integer
from surepatterns.patterns import need_word

LAST_NUMBER = 10
LAST_INDEX = 2 ** 26 - 2


def standard_word(number):
    """The standard word with this number."""
    need_integer(number, 0, LAST_NUMBER)
    word = ""
    for letter in SMALL[:number]:
        word = word + letter + word
    return word


def letter_at(index):
    """The letter of the endless standard word at an index."""
    need_integer(index, 0, LAST_INDEX)
    rest = index + 1
    exponent = 0
    while rest & 1 == 0:
        rest = rest // 2
        exponent += 1
    return SMALL[exponent]


def find_in_standard(word):
    """The smallest index at which the word stands in the endless standard word, or None."""
    need_word(word)
    return _place([SMALL.index(letter) for letter in word])


def _place(numbers):
    """The smallest index for the numbers of the letters of a word, or None.

    The endless standard word has an a at each even index; the letters at its odd indexes are the endless
    standard word again, each letter renamed one further. So a word with an a in every other place stands
    there exactly if its other letters, renamed back, do.
    """
    if numbers == []:
        return 0
    for first in (0, 1):
        inserted = numbers[first::2]
        others = numbers[1 - first::2]
        if 0 not in others and inserted == [0] * len(inserted):
            place = _place([number - 1 for number in others])
            return None if place is None else 2 * place + first
    return None
