"""What several tests need: values of every kind, samples by a fixed chance, and slow, plain searches."""

import random
import re
import time
from contextlib import contextmanager
from functools import lru_cache
from itertools import combinations, product

CAPITALS = "ABCDEFGHIJKLMNOPQRSTUVWXYZ"
SMALL = "abcdefghijklmnopqrstuvwxyz"

NESTED_LIST = [[[[[[[["A"]]]]]]]]
NESTED_TUPLE = (((((((("a",),),),),),),),)

NO_STRINGS = [
    0, 1, -1, 7, 2 ** 70, -2 ** 70, True, False, None,
    (), ("A",), ("a",), ("A", "B"), (1,), (None,), ((),), NESTED_TUPLE,
    [], ["A"], ["a"], ["A", "B"], [1], [None], [[]], NESTED_LIST, [("A",), "B"],
]

NO_PATTERNS = NO_STRINGS + [
    "", "a", "aba", "ABa", " ", "A B", "A1", "AB\n", "\x00", "A" * 21, "ABCDEFGH", "ABCDEFG" * 2 + "ABCDEFH",
]

NO_WORDS = NO_STRINGS + ["A", "abA", " ", "a b", "a1", "ab\n", "\x00", "a" * 201, "z" * 400]

NO_INTEGERS = [True, False, None, "", "0", "1", (), (0,), [], [0], NESTED_LIST, NESTED_TUPLE]


@contextmanager
def within_seconds(case, limit):
    """Fails if the rows below take longer; the limits are far above what they need."""
    start = time.monotonic()
    yield
    case.assertLess(time.monotonic() - start, limit)


def random_pattern(chance, length, most):
    letters = chance.sample(CAPITALS, most)
    return "".join([chance.choice(letters) for _ in range(length)])


def random_word(chance, length, letters):
    return "".join([chance.choice(letters) for _ in range(length)])


def normal_patterns(length, most):
    """All patterns of a length in normal form with at most so many different letters."""
    rows = [""]
    for _ in range(length):
        rows = [row + letter for row in rows for letter in CAPITALS[:min(most, len(set(row)) + 1)]]
    return rows


def first_letters(pattern):
    return "".join(dict.fromkeys(pattern))


def renamed(pattern, chance):
    """The pattern with other letters, and the table of the new ones."""
    table = dict(zip(first_letters(pattern), chance.sample(CAPITALS, len(set(pattern)))))
    return "".join([table[letter] for letter in pattern]), table


def put_in(pattern, words):
    """The pattern with its letters replaced; the words come in the order of first occurrences."""
    table = dict(zip(first_letters(pattern), words))
    return "".join([table[letter] for letter in pattern])


def square_free(length):
    """A word of a, b and c without two equal neighbouring factors."""
    def grow(word):
        for size in range(1, len(word) // 2 + 1):
            if word[-size:] == word[-2 * size:-size]:
                return None
        if len(word) == length:
            return word
        for letter in "abc":
            longer = grow(word + letter)
            if longer is not None:
                return longer
        return None

    return grow("")


def size_choices(counts, room):
    """All tuples of sizes from 1 on for letters that come so often, if all together fit the room."""
    if not counts:
        return [()]
    rows = []
    least_rest = sum(counts[1:])
    for size in range(1, (room - least_rest) // counts[0] + 1):
        rows += [(size,) + rest for rest in size_choices(counts[1:], room - counts[0] * size)]
    return rows


def slow_occurrences(pattern, word, start):
    """All occurrences at an index, by trying words of every length for every letter."""
    letters = first_letters(pattern)
    found = []
    for sizes in size_choices([pattern.count(letter) for letter in letters], len(word) - start):
        table = dict(zip(letters, sizes))
        place = start
        held = {}
        for letter in pattern:
            part = word[place:place + table[letter]]
            if held.setdefault(letter, part) != part:
                break
            place += table[letter]
        else:
            found.append((start, place, tuple([held[letter] for letter in letters])))
    return sorted(found)


def slow_meets(pattern, word):
    return any([slow_occurrences(pattern, word, start) for start in range(len(word))])


def regex_meets(pattern, word):
    """Tells the same by a regular expression, which also tries every word for every letter, but faster."""
    letters = first_letters(pattern)
    parts = []
    for at, letter in enumerate(pattern):
        parts.append(f"\\{letters.index(letter) + 1}" if letter in pattern[:at] else "(.+)")
    return re.search("".join(parts), word) is not None


def all_words(letters, length):
    return ["".join(row) for row in product(SMALL[:letters], repeat=length)]


def slow_components(pattern):
    """The components, by spreading from each end and each beginning along the joins."""
    joins = {}
    for letter in pattern:
        joins.setdefault(("end", letter), [])
        joins.setdefault(("beginning", letter), [])
    for left, right in zip(pattern, pattern[1:]):
        joins[("end", left)].append(("beginning", right))
        joins[("beginning", right)].append(("end", left))
    components = []
    for node in joins:
        reached = [node]
        for each in reached:
            reached += [other for other in joins[each] if other not in reached]
        ends = "".join(sorted({letter for kind, letter in reached if kind == "end"}))
        beginnings = "".join(sorted({letter for kind, letter in reached if kind == "beginning"}))
        if (ends, beginnings) not in components:
            components.append((ends, beginnings))
    return sorted(components)


def letter_sets(pattern):
    """All nonempty sets of letters of a pattern, the shorter ones first."""
    letters = sorted(set(pattern))
    return ["".join(some) for size in range(1, len(letters) + 1) for some in combinations(letters, size)]


def slow_is_free(components, some):
    for ends, beginnings in components:
        if set(ends) & set(some) and set(beginnings) & set(some):
            return False
    return True


@lru_cache(None)
def kept_free_sets(pattern):
    components = slow_components(pattern)
    return tuple([some for some in letter_sets(pattern) if slow_is_free(components, some)])


def slow_free_sets(pattern):
    return list(kept_free_sets(pattern))


def without(pattern, letters):
    return "".join([letter for letter in pattern if letter not in letters])


def kept(pattern, letters):
    return "".join([letter for letter in pattern if letter in letters])


def slow_reachable_sets(pattern):
    """All reachable sets, perhaps with the empty one, by going on from the set of all letters."""
    reached = ["".join(sorted(set(pattern)))]
    for some in reached:
        for free in slow_free_sets(kept(pattern, some)):
            if without(some, free) not in reached:
                reached.append(without(some, free))
    return sorted(reached, key=lambda some: (len(some), some))


def slow_is_chain(pattern, value):
    """Tells whether a list of strings is a chain, by the words of point 9."""
    for letters in value:
        if letters not in slow_free_sets(pattern):
            return False
        pattern = without(pattern, letters)
    return pattern == ""


def slow_is_family(pattern, family):
    """Tells whether a list of strings is a closed family, by the words of point 12."""
    if len(set(family)) != len(family) or "".join(sorted(set(pattern))) not in family:
        return False
    for some in family:
        if some not in letter_sets(pattern):
            return False
        for free in slow_free_sets(kept(pattern, some)):
            if without(some, free) == "" or without(some, free) not in family:
                return False
    return True


def slow_shortest_chain(pattern):
    """The least of the chains with the fewest sets, by taking all chains of one set, two sets, and so on."""
    least = {pattern: []}
    reached = {pattern}
    while least and "" not in least:
        onward = {}
        for rest in least:
            for some in slow_free_sets(rest):
                smaller = without(rest, some)
                chain = least[rest] + [some]
                if smaller not in reached and (smaller not in onward or chain < onward[smaller]):
                    onward[smaller] = chain
        reached |= set(onward)
        least = onward
    return least.get("")


def random_chain(pattern, chance):
    """A chain of the pattern, any one, chosen by chance, or None."""
    chain = []
    while pattern:
        free = slow_free_sets(pattern)
        chance.shuffle(free)
        for some in free:
            if slow_shortest_chain(without(pattern, some)) is not None:
                break
        else:
            return None
        chain.append(some)
        pattern = without(pattern, some)
    return chain


def grown_pattern(chance, longest):
    """A sure pattern, made by putting free sets of new letters into smaller sure ones."""
    unused = chance.sample(CAPITALS, 7)
    pattern = unused.pop()
    for _ in range(40):
        fresh = chance.sample(unused, min(len(unused), chance.randint(1, 2)))
        gaps = [""] * chance.randint(1, 3) + fresh
        grown = chance.choice(gaps) + "".join([letter + chance.choice(gaps) for letter in pattern])
        some = "".join(sorted(set(fresh) & set(grown)))
        if some and len(grown) <= longest and slow_is_free(slow_components(grown), some):
            pattern = grown
            unused = [letter for letter in unused if letter not in some]
    return pattern


def samples(seed, many):
    """Patterns by chance, seldom sure when they are long, and as many sure ones."""
    chance = random.Random(seed)
    rows = [random_pattern(chance, chance.randint(1, 20), chance.randint(1, 7)) for _ in range(many)]
    return rows + [grown_pattern(chance, 20) for _ in range(many)]


def slow_standard_word(number):
    return "" if number == 0 else slow_standard_word(number - 1) + SMALL[number - 1] + slow_standard_word(number - 1)


def slow_letter_number(index):
    """The number of the letter of the endless standard word at an index."""
    rest, exponent = index + 1, 0
    while rest % 2 == 0:
        rest, exponent = rest // 2, exponent + 1
    return exponent
