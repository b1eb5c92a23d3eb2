import random
import unittest
from copy import deepcopy

from surepatterns.chains import delete, index_of, is_chain, is_sure, shortest_chain
from surepatterns.errors import InvalidLetters, InvalidPattern
from tests.helper import (
    CAPITALS, NO_PATTERNS, NO_STRINGS, grown_pattern, letter_sets, normal_patterns, random_chain, random_pattern,
    renamed, samples, slow_is_chain, slow_shortest_chain, slow_standard_word, within_seconds, without,
)


def standard_patterns():
    """Factors of the largest standard patterns that are patterns."""
    row = slow_standard_word(6).upper()
    return [row[start:start + size] for size in (1, 7, 15, 19, 20) for start in range(0, 12, 3)]


class Delete(unittest.TestCase):
    def test_examples(self):
        self.assertEqual(delete("ABACB", "B"), "AAC")
        self.assertEqual(delete("ABACB", "ABC"), "")
        self.assertEqual(delete("A", "A"), "")
        self.assertEqual(delete("AAB", "A"), "B")

    def test_all_sets(self):
        for pattern in samples(1, 40):
            for letters in letter_sets(pattern):
                self.assertEqual(delete(pattern, letters), without(pattern, letters))

    def test_errors(self):
        for value in NO_PATTERNS:
            with self.subTest(value=value):
                for letters in ("A", "", None, ["A"]):
                    self.assertRaises(InvalidPattern, delete, value, letters)
        for value in NO_STRINGS + ["", "D", "AD", "BA", "AA", "ABB", "ACB", "a", "A ", "ABCD"]:
            with self.subTest(value=value):
                self.assertRaises(InvalidLetters, delete, "CABA", value)


class IsChain(unittest.TestCase):
    def test_examples(self):
        self.assertIs(is_chain("ABA", ["B", "A"]), False)
        self.assertIs(is_chain("ABA", ["A", "B"]), True)
        self.assertIs(is_chain("ABC", ["AC", "B"]), True)
        self.assertIs(is_chain("ABC", ["A", "B", "C"]), True)

    def test_any_value(self):
        values = [
            [], ["A"], ["B"], ["AB"], ["A", "B", ""], ["", "A", "B"], ["A", "", "B"], ["A", "B", "B"], ["A", "B", "A"],
            ["A", "A"], ["a", "b"], ["A", 1], [True, "B"], ["A", None], ["A", ["B"]], ["A", ("B",)], [["A", "B"]],
            ("A", "B"), "AB", ["A", "C"], ["A,B"], ["A", "BA"], ["BA"], ["A", "BB"], [[]], {"A": "B"},
        ]
        for value in values + NO_STRINGS + ["", "A"]:
            with self.subTest(value=value):
                if value != ["A", "B"]:
                    self.assertIs(is_chain("ABA", value), False)

    def test_chains(self):
        chance = random.Random(2)
        found = 0
        for pattern in samples(2, 100):
            chain = random_chain(pattern, chance)
            if chain is None:
                continue
            found += 1
            self.assertIs(is_chain(pattern, chain), True)
            self.assertIs(is_chain(pattern, chain[:-1]), False)
            self.assertIs(is_chain(pattern, chain + [chain[-1]]), False)
            self.assertIs(is_chain(pattern, tuple(chain)), False)
            self.assertIs(is_chain(pattern, [chain]), False)
        self.assertGreater(found, 60)

    def test_changed_chains(self):
        chance = random.Random(3)
        for pattern in samples(3, 60):
            sets = letter_sets(pattern)
            for _ in range(20):
                value = [chance.choice(sets) for _ in range(chance.randint(1, 3))]
                self.assertIs(is_chain(pattern, value), slow_is_chain(pattern, value), (pattern, value))

    def test_argument_stays(self):
        for value in (["A", "B"], ["B", "A"], ["A", ["B"]], ["A", "B", "A"]):
            before = deepcopy(value)
            is_chain("ABA", value)
            self.assertEqual(value, before)

    def test_no_patterns(self):
        for value in NO_PATTERNS:
            with self.subTest(value=value):
                self.assertRaises(InvalidPattern, is_chain, value, ["A"])
                self.assertRaises(InvalidPattern, is_chain, value, None)


class Shortest(unittest.TestCase):
    def check(self, pattern):
        expected = slow_shortest_chain(pattern)
        self.assertEqual(shortest_chain(pattern), expected, pattern)
        self.assertEqual(index_of(pattern), None if expected is None else len(expected))
        self.assertIs(is_sure(pattern), expected is not None)
        return expected

    def test_examples(self):
        self.assertEqual(shortest_chain("ABA"), ["A", "B"])
        self.assertEqual(index_of("ABA"), 2)
        self.assertIsNone(index_of("AA"))
        self.assertIsNone(shortest_chain("AA"))
        self.assertIs(is_sure("AA"), False)
        self.assertIs(is_sure("ABACABA"), True)
        self.assertEqual(shortest_chain("A"), ["A"])

    def test_short_patterns(self):
        for length in range(1, 8):
            for pattern in normal_patterns(length, 7):
                self.check(pattern)

    def test_long_patterns(self):
        sure = [pattern for pattern in samples(4, 200) + standard_patterns() if self.check(pattern) is not None]
        self.assertGreater(len([pattern for pattern in sure if len(set(pattern)) >= 5]), 50)
        self.assertGreater(len([pattern for pattern in sure if len(pattern) >= 15]), 20)

    def test_it_is_a_chain(self):
        for pattern in samples(5, 100):
            chain = shortest_chain(pattern)
            if chain is not None:
                self.assertIs(is_chain(pattern, chain), True)
                self.assertEqual(index_of(pattern), len(chain))

    def test_different_letters(self):
        for many in range(1, 8):
            least = min([number for number in range(10) if 2 ** number > many])
            self.assertEqual(index_of(CAPITALS[:many]), least)
            self.assertEqual(index_of(CAPITALS[10:10 + many]), least)

    def test_standard_patterns(self):
        for number in range(1, 5):
            self.assertEqual(index_of(slow_standard_word(number).upper()), number)

    def test_renamed_and_reversed_patterns(self):
        chance = random.Random(6)
        for pattern in samples(6, 100):
            self.assertEqual(index_of(renamed(pattern, chance)[0]), index_of(pattern))
            self.assertEqual(index_of(pattern[::-1]), index_of(pattern))

    def test_factors_of_sure_patterns(self):
        for pattern in samples(7, 20):
            index = index_of(pattern)
            if index is None:
                continue
            for start in range(len(pattern)):
                for end in range(start + 1, len(pattern) + 1):
                    self.assertIs(is_sure(pattern[start:end]), True)
                    self.assertLessEqual(index_of(pattern[start:end]), index)

    def test_size_of_sure_patterns(self):
        for pattern in samples(8, 100) + standard_patterns():
            index = index_of(pattern)
            if index is not None:
                self.assertLessEqual(len(pattern), 2 ** index - 1)
                self.assertIn(1, [pattern.count(letter) for letter in pattern])

    def test_results_are_new(self):
        for pattern in ("A", "ABA", "ABACABA"):
            result = shortest_chain(pattern)
            again = list(result)
            result.append("more")
            self.assertEqual(shortest_chain(pattern), again)

    def test_no_patterns(self):
        for value in NO_PATTERNS:
            with self.subTest(value=value):
                for call in (shortest_chain, index_of, is_sure):
                    self.assertRaises(InvalidPattern, call, value)

    def test_hardest(self):
        chance = random.Random(9)
        rows = [random_pattern(chance, 20, 7) for _ in range(100)]
        rows += [pattern for pattern in [grown_pattern(chance, 20) for _ in range(300)] if len(set(pattern)) == 7]
        with within_seconds(self, 20):
            for pattern in rows + ["ABCDEFG", "A" * 20, "AB" * 10]:
                self.assertIs(is_sure(pattern), index_of(pattern) is not None)
