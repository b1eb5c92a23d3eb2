"""Slow, plain ways to say of rules what points 19 to 25 say, by their words; and rules to try them on."""

import re
from functools import lru_cache
from itertools import product

from tests.helper import (
    CAPITALS, NESTED_LIST, NESTED_TUPLE, NO_STRINGS, SMALL, first_letters, random_word,
)

MORSE = ("ab", "ba")
FIBONACCI = ("ab", "aa")
# One over four letters with images of two letters, without squares at its single letters.
FOUR = ("ab", "ca", "cd", "ac")

# The first letter never comes again.
ONCE = ("ab", "bc", "cb")
# With the delay 9, and with pairs of letters that come first at places beyond 10000.
LATE = ("abbc", "bcab", "dbad", "ccaa")
NO_DELAY = [
    ("aa", "ab"), ("ab", "bb"), ("aa", "bb"), ("aba", "bab"), ("aaa", "bbb"), ("aaaa", "bbbb"),
    ("aaaa", "bbbb", "cccc", "dddd"),
]
# For each number from 1 to 12 a rule with this delay.
BY_DELAY = [
    ("ad", "cb", "ab", "cd"), ("ac", "bc", "ab"), ("ab", "aa"), ("ab", "ba"), ("abb", "bab"), ("abab", "abbb"),
    ("abb", "aaa"), ("abaa", "baab"), ("abba", "baba"), ("aabb", "aaaa"), ("abab", "bbaa"), ("acc", "cca", "bbb"),
]
BY_HAND = [MORSE, FIBONACCI, FOUR, ONCE, LATE]

NO_RULES = NO_STRINGS + [
    "", "ab", "abba", "ab,ba", ("ab",), ("ab", "ab"), ["ab", "ba"], [("ab", "ba")], (("ab", "ba"),), ("ab", ["ba"]),
    ("ba", "ab"), ("bb", "aa"), ("a", "b"), ("abbab", "babba"), ("ab", "b"), ("ab", "aba"), ("ab", ""), ("", ""),
    ("ab", "ac"), ("ab", "ca"), ("ac", "ab"), ("AB", "BA"), ("aB", "ba"), ("a ", " a"), ("ab", None), ("ab", 1),
    ("ab", "ba", "ab"), ("ab", "ba", "ad"), ("ab", "ba", "cc", "aa", "bb"), ("ab", "ba", "cc", "ae"),
    ("ab", "bc", ("ca",)), (True, "ab"), ("ab", "ba", ""), ("ab", "ba", None), {"ab": "ba"}, ("ab", "ba", []),
    ("aaaa", "aaab", "aaba", "aabbb"), ("abc", "bca"), ("a" * 200, "b" * 200), ("ab", "b" * 201), ("ab", NESTED_LIST),
    ("abab", "baab", "aabb", "bbaa", "aaaa"), NESTED_TUPLE,
]
# Rules short of these: any value at all.
SOME_NO_RULES = [None, True, 7, "", "ab", ("ab",), ["ab", "ba"], ("ab", "ab"), ("ba", "ab"), ("ab", ["ba"]), NESTED_LIST]
SOME_NO_DELAY = NO_DELAY[:4]


def size_of(rule):
    return len(rule[0])


def letters_of_rule(rule):
    return SMALL[:len(rule)]


def slow_image(rule, word):
    table = dict(zip("abcd", rule))
    return "".join([table[letter] for letter in word])


@lru_cache(None)
def slow_start(rule, length):
    """The rule word by point 19, place by place."""
    word = ["a"]
    size = size_of(rule)
    while len(word) < length:
        at = len(word)
        word.append(rule["abcd".index(word[at // size])][at % size])
    return "".join(word[:length])


def slow_letter(rule, place):
    if place == 0:
        return "a"
    before = slow_letter(rule, place // size_of(rule))
    return rule["abcd".index(before)][place % size_of(rule)]


def slow_word(rule, place, length):
    return "".join([slow_letter(rule, at) for at in range(place, place + length)])


def random_rule(chance, many=None, size=None):
    many = many or chance.randint(2, 4)
    size = size or chance.randint(2, 4)
    while True:
        row = tuple([random_word(chance, size, SMALL[:many]) for _ in range(many)])
        if len(set(row)) == many and row[0][0] == "a":
            return row


def random_delayed_rule(chance, many=None, size=None, least=1):
    while True:
        rule = random_rule(chance, many, size)
        if (slow_delay(rule) or 0) >= least:
            return rule


@lru_cache(None)
def slow_cut_rows(rule, length):
    """The least closed list of tuples (word, cut) by point 21."""
    first = (slow_start(rule, length), 0)
    rows = [first]
    known = {first}
    for word, _ in rows:
        text = slow_image(rule, word)
        for index in range(len(text) - length + 1):
            row = (text[index:index + length], index % size_of(rule))
            if row not in known:
                known.add(row)
                rows.append(row)
    return tuple(sorted(rows))


@lru_cache(None)
def slow_factors(rule, length):
    """The least closed list of words by point 20."""
    if length == 0:
        return ("",)
    words = [slow_start(rule, length)]
    known = set(words)
    for word in words:
        text = slow_image(rule, word)
        for index in range(len(text) - length + 1):
            if text[index:index + length] not in known:
                known.add(text[index:index + length])
                words.append(text[index:index + length])
    return tuple(sorted(words))


@lru_cache(None)
def slow_delay(rule):
    for length in range(1, 13):
        rows = slow_cut_rows(rule, length)
        if len({word for word, _ in rows}) == len(rows):
            return length
    return None


@lru_cache(None)
def slow_pair_places(rule):
    """The least places of the words of one and two letters, by going on until nothing becomes less."""
    size = size_of(rule)
    places = {"a": 0, slow_start(rule, 2): 0}
    changed = True
    while changed:
        changed = False
        for word, place in list(places.items()):
            text = slow_image(rule, word)
            for length in (1, 2):
                for index in range(len(text) - length + 1):
                    inner = text[index:index + length]
                    if size * place + index < places.get(inner, size * place + index + 1):
                        places[inner] = size * place + index
                        changed = True
    return places


def words_over(rule, word, cut):
    """All words in whose image a word stands at an index below the length of the rule."""
    size = size_of(rule)
    many = -(-(cut + len(word)) // size)
    rows = [""]
    for at in range(many):
        part = word[max(at * size - cut, 0):(at + 1) * size - cut]
        index = cut if at == 0 else 0
        rows = [
            row + letter for row in rows for letter, image in zip(SMALL, rule) if image[index:].startswith(part)
        ]
    return rows


@lru_cache(200000)
def slow_place(rule, word):
    """The least place by going back to words of two letters; each word above is tried on its own."""
    if len(word) <= 2:
        return 0 if word == "" else slow_pair_places(rule).get(word)
    places = []
    for cut in range(size_of(rule)):
        for over in words_over(rule, word, cut):
            place = slow_place(rule, over)
            if place is not None:
                places.append(size_of(rule) * place + cut)
    return min(places, default=None)


def slow_is_factor(rule, word):
    if len(word) <= 8:
        return word in slow_factors(rule, len(word))
    return slow_place(rule, word) is not None


def slow_cuts(rule, word):
    if word == "":
        return list(range(size_of(rule)))
    found = []
    for cut in range(size_of(rule)):
        if any([slow_is_factor(rule, over) for over in words_over(rule, word, cut)]):
            found.append(cut)
    return found


@lru_cache(None)
def slow_short_words(rule):
    reach = max(slow_delay(rule), 2 * size_of(rule) - 1)
    return tuple(sorted([word for length in range(1, reach) for word in slow_factors(rule, length)]))


def capitals(shape):
    return first_letters([letter for letter in shape if letter in CAPITALS])


def slow_blocks(shape):
    blocks = [""]
    for letter in shape:
        if letter in CAPITALS:
            blocks.append("")
        else:
            blocks[-1] += letter
    return blocks


def slow_is_dead(rule, shape):
    return not all([slow_is_factor(rule, block) for block in slow_blocks(shape)])


@lru_cache(None)
def slow_letter_choices(rule):
    """All choices for one capital letter."""
    size = size_of(rule)
    ends = {""} | {image[index:] for image in rule for index in range(1, size)}
    beginnings = {""} | {image[:index] for image in rule for index in range(1, size)}
    return [(word,) for word in slow_short_words(rule)] + sorted(product(ends, beginnings))


def slow_put_in(shape, choices):
    table = dict(zip(capitals(shape), choices))
    rows = []
    for letter in shape:
        if letter not in table:
            rows.append(letter)
        elif len(table[letter]) == 1:
            rows.append(table[letter][0])
        else:
            rows.append(table[letter][0] + letter + table[letter][1])
    return "".join(rows)


def is_image_of(rule, block):
    """The words whose image a block is, none or one."""
    return [over for over in words_over(rule, block, 0) if slow_image(rule, over) == block] if block else [""]


def slow_results(rule, shape, choices):
    """The word or the shapes to which choices lead, by the words of point 23."""
    text = slow_put_in(shape, choices)
    if not capitals(text):
        return [text]
    blocks = slow_blocks(text)
    order = [letter for letter in text if letter in CAPITALS]
    size = size_of(rule)
    first = is_image_of(rule, blocks[0])
    last = is_image_of(rule, blocks[-1])
    for letter, image in zip(SMALL, rule):
        for many in range(1, size):
            if blocks[0].startswith(image[size - many:]):
                first = first + [letter + word for word in is_image_of(rule, blocks[0][many:])]
            if blocks[-1].endswith(image[:many]):
                last = last + [word + letter for word in is_image_of(rule, blocks[-1][:len(blocks[-1]) - many])]
    inner = [is_image_of(rule, block) for block in blocks[1:-1]]
    found = []
    for row in product(first, *inner, last):
        found.append("".join([word + letter for word, letter in zip(row, order + [""])]))
    return sorted(found)


def slow_live_steps(rule, shape):
    """All live steps by trying all choices."""
    steps = []
    for choices in product(slow_letter_choices(rule), repeat=len(capitals(shape))):
        for result in slow_results(rule, shape, choices):
            if not slow_is_dead(rule, result):
                steps.append((choices, result))
    return sorted(steps)


def slow_levels(rule, shape, steps):
    """The levels of a shape by point 24, up to the first one with a live step to a word; `steps` gives live steps.

    Also the number of this level, or None.
    """
    levels = [[shape]]
    known = {shape}
    while levels[-1]:
        rows = [result for each in levels[-1] for _, result in steps(rule, each)]
        if [result for result in rows if not capitals(result)]:
            return levels, len(levels) - 1
        onward = [result for result in dict.fromkeys(rows) if result not in known]
        known |= set(onward)
        levels.append(onward)
    return levels[:-1], None


def slow_is_way(rule, shape, value):
    """Tells whether a list of tuples (shape, choices) of this form is a way, by the words of point 24."""
    if not value or value[0][0] != shape:
        return False
    for (each, choices), after in zip(value, value[1:] + [None]):
        if not isinstance(choices, tuple) or len(choices) != len(capitals(each)):
            return False
        if not all([choice in slow_letter_choices(rule) for choice in choices]):
            return False
        results = slow_results(rule, each, choices)
        if after is None:
            return bool([word for word in results if not capitals(word) and slow_is_factor(rule, word)])
        if after[0] not in results or not capitals(after[0]):
            return False


def slow_far(rule, way):
    """The place and the lengths by point 25."""
    size = size_of(rule)
    shape, choices = way[0]
    if len(way) == 1:
        return slow_place(rule, slow_put_in(shape, choices)), tuple([len(choice[0]) for choice in choices])
    place, lengths = slow_far(rule, way[1:])
    table = dict(zip(capitals(way[1][0]), lengths))
    rows = []
    for letter, choice in zip(capitals(shape), choices):
        rows.append(len("".join(choice)) + (size * table[letter] if len(choice) == 2 else 0))
    first = slow_blocks(slow_put_in(shape, choices))[0]
    return size * place + (0 if len(first) % size == 0 else size - len(first) % size), tuple(rows)


def slow_occurs_in(shape, word):
    """Tells whether a shape has an occurrence in a word, by a regular expression."""
    parts = []
    for at, letter in enumerate(shape):
        if letter not in CAPITALS:
            parts.append(letter)
        else:
            parts.append(f"\\{capitals(shape).index(letter) + 1}" if letter in shape[:at] else "(.+?)")
    return re.search("".join(parts), word) is not None
