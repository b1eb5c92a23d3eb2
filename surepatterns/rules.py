"""Rules, images and the endless rule word (point 19)."""

from surepatterns.alphabet import SMALL, has_only
from surepatterns.errors import InvalidWord
from surepatterns.integers import need_integer
from surepatterns.patterns import is_word
from surepatterns.wrongs import InvalidRule

FEWEST_WORDS = 2
MOST_WORDS = 4
SHORTEST = 2
LONGEST = 4
LONGEST_START = 200
LAST_PLACE = 10 ** 60


def is_rule(value):
    """Tell whether any value is a rule."""
    if not isinstance(value, tuple) or not FEWEST_WORDS <= len(value) <= MOST_WORDS:
        return False
    for word in value:
        if not is_word(word) or not has_only(word, SMALL[:len(value)]):
            return False
    sizes = [len(word) for word in value]
    if not SHORTEST <= sizes[0] <= LONGEST or sizes != [sizes[0]] * len(value):
        return False
    return len(set(value)) == len(value) and value[0][0] == "a"


def image_of(rule, word):
    """The image of a word."""
    need_rule(rule)
    need_rule_word(rule, word)
    return image(rule, word)


def rule_start(rule, length):
    """The first letters of the rule word, as many as the length says."""
    need_rule(rule)
    need_integer(length, 0, LONGEST_START)
    return start_of(rule, length)


def rule_letter(rule, place):
    """The letter of the rule word at a place."""
    need_rule(rule)
    need_integer(place, 0, LAST_PLACE)
    return letter_of(rule, place)


def need_rule(value):
    """Raise InvalidRule if any value is not a rule."""
    if not is_rule(value):
        raise InvalidRule("a rule has 2 to 4 different words of one length from 2 to 4 in the first letters")


def is_rule_word(rule, value):
    """Tell whether any value is a word of letters of a rule."""
    return is_word(value) and has_only(value, SMALL[:len(rule)])


def need_rule_word(rule, value):
    """Raise InvalidWord if any value is not a word of letters of a rule."""
    if not is_rule_word(rule, value):
        raise InvalidWord("a word of at most 200 letters of the rule is needed")


def image(rule, word):
    """The image of a word, where the rule and the word are known to be right."""
    return "".join([rule[SMALL.index(letter)] for letter in word])


def start_of(rule, length):
    """The first letters of the rule word, as many as the length says."""
    start = "a"
    while len(start) < length:
        start = image(rule, start)
    return start[:length]


def word_of(rule, place, length):
    """The word of a length, any one, that stands in the rule word at a place of any size."""
    size = len(rule[0])
    steps = []
    rest, many = place, length
    # The letters in whose images the word stands are a word again; going back so always leads to place 0.
    while rest > 0:
        cut = rest % size
        steps.append((cut, many))
        rest, many = rest // size, (cut + many + size - 1) // size
    word = start_of(rule, many)
    for cut, many in reversed(steps):
        word = image(rule, word)[cut:cut + many]
    return word


def letter_of(rule, place):
    """The letter of the rule word at a place of any size."""
    size = len(rule[0])
    indexes = []
    rest = place
    # A letter stands in the image of the letter at place // size; going back so always leads to place 0.
    while rest > 0:
        indexes.append(rest % size)
        rest = rest // size
    letter = "a"
    for index in reversed(indexes):
        letter = image(rule, letter)[index]
    return letter
