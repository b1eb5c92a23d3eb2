import random
import unittest
from copy import deepcopy

from surepatterns.chains import index_of, is_sure, shortest_chain
from surepatterns.embedding import occurrence_by_chain, occurrence_in_standard
from surepatterns.errors import InvalidChain, InvalidPattern, NotSure
from surepatterns.occurrences import meets
from surepatterns.standard import standard_word
from tests.helper import (
    NO_PATTERNS, NO_STRINGS, first_letters, grown_pattern, normal_patterns, put_in, random_chain, random_pattern,
    slow_meets, slow_shortest_chain, slow_standard_word, within_seconds,
)


def samples(seed, many):
    """Sure patterns of every size, and some by chance."""
    chance = random.Random(seed)
    rows = [grown_pattern(chance, 20) for _ in range(many)]
    rows += [random_pattern(chance, chance.randint(1, 10), 7) for _ in range(many // 2)]
    text = slow_standard_word(6).upper()
    return rows + [text[start:start + 20] for start in range(0, 44, 4)] + ["ABCDEFG", "A", "AB"]


class Embedding(unittest.TestCase):
    def check(self, pattern, number, occurrence):
        start, end, words = occurrence
        self.assertIsInstance(occurrence, tuple)
        self.assertIsInstance(words, tuple)
        self.assertEqual(len(words), len(first_letters(pattern)))
        self.assertNotIn("", words)
        self.assertTrue(0 <= start < end < 2 ** number)
        self.assertEqual(slow_standard_word(number)[start:end], put_in(pattern, words), (pattern, occurrence))


class ByChain(Embedding):
    def test_examples(self):
        self.assertEqual(occurrence_by_chain("ABA", ["A", "B"]), (0, 3, ("a", "b")))
        self.check("ABC", 2, occurrence_by_chain("ABC", ["AC", "B"]))
        self.check("ABC", 3, occurrence_by_chain("ABC", ["B", "C", "A"]))

    def test_any_chain(self):
        chance = random.Random(1)
        lengths = []
        for pattern in samples(1, 150):
            for _ in range(4):
                chain = random_chain(pattern, chance)
                if chain is not None:
                    self.check(pattern, len(chain), occurrence_by_chain(pattern, chain))
                    lengths.append(len(chain) - index_of(pattern))
        self.assertIn(0, lengths)
        self.assertGreater(max(lengths), 1)

    def test_letters_one_by_one(self):
        self.check("ABCDEFG", 7, occurrence_by_chain("ABCDEFG", list("ABCDEFG")))
        self.check("ABCDEFG", 7, occurrence_by_chain("ABCDEFG", list("GBFACED")))
        self.check("ABACABADABACABA", 4, occurrence_by_chain("ABACABADABACABA", list("ABCD")))

    def test_short_patterns(self):
        chance = random.Random(2)
        for length in range(1, 7):
            for pattern in normal_patterns(length, 6):
                for chain in (random_chain(pattern, chance), slow_shortest_chain(pattern)):
                    if chain is not None:
                        self.check(pattern, len(chain), occurrence_by_chain(pattern, chain))

    def test_repeated_calls(self):
        for pattern in samples(3, 20):
            chain = shortest_chain(pattern)
            if chain is not None:
                before = deepcopy(chain)
                self.assertEqual(occurrence_by_chain(pattern, chain), occurrence_by_chain(pattern, list(chain)))
                self.assertEqual(chain, before)

    def test_no_chains(self):
        values = [
            [], ["A"], ["B", "A"], ["AB"], ["A", "B", "A"], ("A", "B"), "AB", ["A", ""], ["A", ["B"]], ["A", None],
            ["A", "C"], ["a", "b"], [["A"], ["B"]],
        ]
        for value in values + [value for value in NO_STRINGS if value != ["A", "B"]]:
            with self.subTest(value=value):
                self.assertRaises(InvalidChain, occurrence_by_chain, "ABA", value)
        self.assertRaises(InvalidChain, occurrence_by_chain, "AA", ["A"])

    def test_no_patterns(self):
        for value in NO_PATTERNS:
            with self.subTest(value=value):
                self.assertRaises(InvalidPattern, occurrence_by_chain, value, ["A"])
                self.assertRaises(InvalidPattern, occurrence_by_chain, value, None)
                self.assertRaises(InvalidPattern, occurrence_in_standard, value)


class InStandard(Embedding):
    def test_examples(self):
        self.assertEqual(occurrence_in_standard("A"), (0, 1, ("a",)))
        self.assertRaises(NotSure, occurrence_in_standard, "AA")
        self.assertRaises(NotSure, occurrence_in_standard, "ABAB")

    def test_index(self):
        sure = []
        for pattern in samples(4, 150) + normal_patterns(5, 5):
            chain = slow_shortest_chain(pattern)
            if chain is None:
                self.assertRaises(NotSure, occurrence_in_standard, pattern)
            else:
                self.check(pattern, len(chain), occurrence_in_standard(pattern))
                self.assertEqual(occurrence_in_standard(pattern), occurrence_in_standard(pattern))
                sure.append(len(pattern))
        self.assertGreater(len(sure), 150)
        self.assertIn(20, sure)

    def test_patterns_of_twenty_letters(self):
        chance = random.Random(5)
        with within_seconds(self, 20):
            for _ in range(100):
                pattern = random_pattern(chance, 20, 7)
                if is_sure(pattern):
                    self.check(pattern, index_of(pattern), occurrence_in_standard(pattern))
                else:
                    self.assertRaises(NotSure, occurrence_in_standard, pattern)


class MainPromise(unittest.TestCase):
    """Point 3: the index of a sure pattern is the number of the first standard word that meets it."""

    def first_standard_word(self, pattern):
        for number in range(5):
            if slow_meets(pattern, standard_word(number)):
                return number
        return None

    def test_all_patterns_of_up_to_six_letters(self):
        for length in range(1, 7):
            for pattern in normal_patterns(length, 4):
                self.assertEqual(index_of(pattern), self.first_standard_word(pattern), pattern)

    def test_patterns_of_seven_and_eight_letters(self):
        chance = random.Random(6)
        rows = chance.sample(normal_patterns(7, 4), 200) + chance.sample(normal_patterns(8, 4), 300)
        text = slow_standard_word(4).upper()
        rows += [text[start:start + size] for size in (7, 8) for start in range(8)] + ["ABACBAB", "ABCBABC"]
        for pattern in rows:
            self.assertEqual(index_of(pattern), self.first_standard_word(pattern), pattern)

    def test_larger_patterns(self):
        for pattern in samples(7, 150):
            index = index_of(pattern)
            if index is None:
                self.assertIs(meets(pattern, standard_word(4)), False)
            elif index <= 5:
                self.assertIs(meets(pattern, standard_word(index - 1)), False)
