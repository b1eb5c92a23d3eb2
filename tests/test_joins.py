import random
import unittest

from surepatterns.errors import InvalidLetters, InvalidPattern
from surepatterns.joins import free_sets, is_free, joined
from tests.helper import (
    CAPITALS, NO_PATTERNS, NO_STRINGS, first_letters, grown_pattern, letter_sets, normal_patterns, random_pattern,
    renamed, slow_components, slow_free_sets, within_seconds,
)


def samples(seed, many):
    """Patterns of every size, the sure ones among them with many free sets."""
    chance = random.Random(seed)
    rows = [random_pattern(chance, chance.randint(1, 20), chance.randint(1, 7)) for _ in range(many)]
    rows += [grown_pattern(chance, 20) for _ in range(many // 3)]
    return rows + normal_patterns(5, 5) + ["ABCDEFG", "A" * 20, "ABCDEFG" * 2 + "ABCDEF", "AB" * 10]


class Joined(unittest.TestCase):
    def test_examples(self):
        self.assertEqual(joined("ABA"), [("A", "B"), ("B", "A")])
        self.assertEqual(joined("A"), [("", "A"), ("A", "")])
        self.assertEqual(joined("AA"), [("A", "A")])
        self.assertEqual(joined("ZA"), [("", "Z"), ("A", ""), ("Z", "A")])
        self.assertEqual(joined("ACBCA"), [("AB", "C"), ("C", "AB")])

    def test_components(self):
        for pattern in samples(1, 300):
            self.assertEqual(joined(pattern), slow_components(pattern), pattern)

    def test_each_end_and_each_beginning_stands_in_one_component(self):
        for pattern in samples(2, 100):
            components = joined(pattern)
            self.assertEqual(components, sorted(components))
            for side in (0, 1):
                letters = "".join([component[side] for component in components])
                self.assertEqual(sorted(letters), sorted(set(pattern)))
            for component in components:
                self.assertIsInstance(component, tuple)
                self.assertNotEqual(component, ("", ""))
                self.assertEqual(["".join(sorted(side)) for side in component], list(component))

    def test_reversed_pattern(self):
        for pattern in samples(3, 100):
            turned = sorted([(beginnings, ends) for ends, beginnings in joined(pattern)])
            self.assertEqual(joined(pattern[::-1]), turned)

    def test_renamed_letters(self):
        chance = random.Random(4)
        for pattern in samples(4, 100):
            other, table = renamed(pattern, chance)
            expected = [
                tuple(["".join(sorted([table[letter] for letter in side])) for side in component])
                for component in joined(pattern)
            ]
            self.assertEqual(joined(other), sorted(expected))

    def test_results_are_new(self):
        for call in (joined, free_sets):
            result = call("ABACB")
            again = list(result)
            result.clear()
            self.assertEqual(call("ABACB"), again)

    def test_no_patterns(self):
        for value in NO_PATTERNS:
            with self.subTest(value=value):
                self.assertRaises(InvalidPattern, joined, value)
                self.assertRaises(InvalidPattern, free_sets, value)


class Free(unittest.TestCase):
    def test_examples(self):
        self.assertIs(is_free("ABA", "AB"), False)
        self.assertEqual(free_sets("ABA"), ["A", "B"])
        self.assertEqual(free_sets("AA"), [])
        self.assertEqual(free_sets("A"), ["A"])
        self.assertEqual(free_sets("ABC"), ["A", "B", "C", "AC"])

    def test_free_sets(self):
        for pattern in samples(5, 200):
            found = free_sets(pattern)
            self.assertEqual(found, slow_free_sets(pattern), pattern)
            self.assertEqual(found, sorted(sorted(found), key=len))

    def test_is_free(self):
        for pattern in samples(6, 50):
            expected = slow_free_sets(pattern)
            for letters in letter_sets(pattern):
                self.assertIs(is_free(pattern, letters), letters in expected, (pattern, letters))

    def test_parts_of_a_free_set_are_free(self):
        for pattern in samples(7, 50):
            found = free_sets(pattern)
            for letters in found:
                for some in letter_sets(letters):
                    self.assertIn(some, found)

    def test_neighbours_are_never_free(self):
        for pattern in samples(8, 50):
            pairs = list(zip(pattern, pattern[1:]))
            for letters in free_sets(pattern):
                for left, right in pairs:
                    self.assertFalse(left in letters and right in letters)

    def test_no_patterns(self):
        for value in NO_PATTERNS:
            with self.subTest(value=value):
                for letters in ("A", "", None, ["A"]):
                    self.assertRaises(InvalidPattern, is_free, value, letters)

    def test_no_letters(self):
        for value in NO_STRINGS + ["", "D", "AD", "BA", "AA", "ABB", "ACB", "a", "A ", "ABCD", "A,B", "\n", ("A", "B")]:
            with self.subTest(value=value):
                self.assertRaises(InvalidLetters, is_free, "CABA", value)

    def test_letters_in_alphabetical_order_only(self):
        self.assertIs(is_free("CABA", "BC"), True)
        self.assertRaises(InvalidLetters, is_free, "CABA", "CB")
        chance = random.Random(9)
        for pattern in samples(9, 50):
            letters = list(first_letters(pattern))
            chance.shuffle(letters)
            if letters != sorted(letters):
                self.assertRaises(InvalidLetters, is_free, pattern, "".join(letters))
            for letter in CAPITALS:
                if letter not in pattern:
                    self.assertRaises(InvalidLetters, is_free, pattern, letter)

    def test_hardest(self):
        chance = random.Random(10)
        with within_seconds(self, 20):
            for _ in range(200):
                pattern = random_pattern(chance, 20, 7)
                self.assertEqual(joined(pattern), slow_components(pattern))
                self.assertEqual(free_sets(pattern), slow_free_sets(pattern))
