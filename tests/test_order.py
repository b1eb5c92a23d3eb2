import random
import unittest

from surepatterns.chains import index_of, is_sure, shortest_chain
from surepatterns.errors import InvalidNumber, InvalidPattern
from surepatterns.order import contains, standard_pattern, sure_patterns
from surepatterns.patterns import normal_form
from tests.helper import (
    CAPITALS, NO_INTEGERS, NO_PATTERNS, first_letters, grown_pattern, normal_patterns, random_pattern, regex_meets,
    renamed, samples, slow_meets, slow_shortest_chain, slow_standard_word, within_seconds,
)


def taken_from(pattern, chance):
    """A pattern that stands in the first one: letters of a factor, some of its parts put together."""
    parts = []
    start = chance.randint(0, len(pattern) - 1)
    while start < len(pattern) and chance.random() < 0.9:
        size = chance.randint(1, 2)
        parts.append(pattern[start:start + size])
        start += size
    parts = parts or [pattern[0]]
    names = {part: CAPITALS[at] for at, part in enumerate(dict.fromkeys(parts))}
    return "".join([names[part] for part in parts])


class Contains(unittest.TestCase):
    def check(self, first, second):
        expected = regex_meets(second, first)
        self.assertIs(contains(first, second), expected, (first, second))
        return expected

    def test_examples(self):
        self.assertIs(contains("ABCBA", "ABA"), True)
        self.assertIs(contains("ABA", "ABCBA"), False)
        self.assertIs(contains("AA", "A"), True)
        self.assertIs(contains("A", "AA"), False)
        self.assertIs(contains("ABC", "AA"), False)
        self.assertIs(contains("ABAB", "XX"), True)

    def test_short_patterns(self):
        rows = [pattern for length in range(1, 6) for pattern in normal_patterns(length, 5)]
        for first in rows:
            for second in rows:
                self.check(first, second)

    def test_the_plain_search_says_the_same(self):
        chance = random.Random(1)
        for _ in range(200):
            first = random_pattern(chance, chance.randint(1, 12), chance.randint(1, 7))
            second = random_pattern(chance, chance.randint(1, 5), chance.randint(1, 4))
            self.assertIs(contains(first, second), slow_meets(second, first.lower()), (first, second))

    def test_patterns_of_every_size(self):
        chance = random.Random(2)
        answers = []
        for first in samples(3, 150):
            answers.append(self.check(first, random_pattern(chance, chance.randint(1, 6), chance.randint(1, 4))))
            answers.append(self.check(first, random_pattern(chance, chance.randint(1, 20), chance.randint(1, 7))))
            answers.append(self.check(first, renamed(first, chance)[0]))
        self.assertGreater(answers.count(True), 200)
        self.assertGreater(answers.count(False), 200)

    def test_taken_patterns(self):
        chance = random.Random(4)
        for first in samples(5, 150):
            second = taken_from(first, chance)
            if len(set(second)) <= 7:
                self.assertIs(contains(first, second), True, (first, second))
                self.assertIs(contains(first, renamed(second, chance)[0]), True)

    def test_itself_and_its_factors(self):
        chance = random.Random(6)
        for pattern in samples(7, 40):
            self.assertIs(contains(pattern, pattern), True)
            for start in range(len(pattern)):
                factor = pattern[start:chance.randint(start + 1, len(pattern))]
                self.assertIs(contains(pattern, renamed(factor, chance)[0]), True)
                self.assertIs(contains(factor, pattern), len(factor) == len(pattern))

    def test_transitive(self):
        rows = [pattern for length in range(1, 5) for pattern in normal_patterns(length, 4)] + ["ABACABA", "ABCBA"]
        pairs = [(first, second) for first in rows for second in rows if contains(first, second)]
        for first, second in pairs:
            for third in rows:
                if (second, third) in pairs:
                    self.assertIs(contains(first, third), True)
                    self.assertIn((first, third), pairs)

    def test_both_ways(self):
        chance = random.Random(8)
        rows = [random_pattern(chance, chance.randint(1, 5), chance.randint(1, 3)) for _ in range(80)]
        both = 0
        for first in rows:
            for second in rows:
                if contains(first, second) and contains(second, first):
                    both += first != second
                    self.assertEqual(normal_form(first), normal_form(second))
        self.assertGreater(both, 10)

    def test_indexes(self):
        chance = random.Random(9)
        contained = 0
        for first in samples(10, 80):
            index = index_of(first)
            second = chance.choice([taken_from(first, chance), random_pattern(chance, chance.randint(1, 7), 5)])
            if index is not None and len(set(second)) <= 7 and contains(first, second):
                contained += 1
                self.assertIs(is_sure(second), True)
                self.assertLessEqual(index_of(second), index)
        self.assertGreater(contained, 30)

    def test_errors(self):
        for value in NO_PATTERNS:
            with self.subTest(value=value):
                self.assertRaises(InvalidPattern, contains, value, "A")
                self.assertRaises(InvalidPattern, contains, "A", value)
                self.assertRaises(InvalidPattern, contains, value, value)

    def test_hardest(self):
        chance = random.Random(11)
        rows = [random_pattern(chance, 20, 7) for _ in range(12)]
        rows += ["ABCDEFG", "ABCDEFGG", "ABCDEFGABCDEFG", "A" * 20, "AB" * 10, slow_standard_word(5).upper()[:20]]
        with within_seconds(self, 60):
            for first in rows:
                for second in rows:
                    self.check(first, second)


class SurePatterns(unittest.TestCase):
    def test_examples(self):
        self.assertEqual(sure_patterns(3), ["ABA", "ABC"])
        self.assertEqual(sure_patterns(1), ["A"])
        self.assertEqual(sure_patterns(2), ["AB"])

    def test_own_search(self):
        for length in range(1, 7):
            expected = [row for row in normal_patterns(length, 7) if slow_shortest_chain(row) is not None]
            self.assertEqual(sure_patterns(length), expected)
            self.assertEqual(expected, sorted(expected))

    def test_length_seven(self):
        expected = [row for row in normal_patterns(7, 7) if slow_shortest_chain(row) is not None]
        self.assertEqual(sure_patterns(7), expected)
        self.assertEqual([row for row in normal_patterns(7, 7) if is_sure(row)], expected)
        self.assertIn("ABACABA", expected)
        self.assertIn("ABCDEFG", expected)

    def test_normal_forms(self):
        for length in range(1, 8):
            found = sure_patterns(length)
            self.assertEqual(found, sorted(set(found)))
            for pattern in found:
                self.assertEqual(normal_form(pattern), pattern)
                self.assertEqual(len(pattern), length)

    def test_results_are_new(self):
        for length in range(1, 8):
            result = sure_patterns(length)
            again = list(result)
            result.append("more")
            result.reverse()
            self.assertEqual(sure_patterns(length), again)
            result.clear()
            for other in range(1, 8):
                sure_patterns(other).clear()
            self.assertEqual(sure_patterns(length), again)

    def test_a_hundred_calls(self):
        with within_seconds(self, 15):
            for _ in range(100):
                sure_patterns(7)

    def test_wrong_numbers(self):
        for value in NO_INTEGERS + [0, -1, 8, 9, 2 ** 70, -2 ** 70]:
            with self.subTest(value=value):
                self.assertRaises(InvalidNumber, sure_patterns, value)


class StandardPattern(unittest.TestCase):
    def test_all(self):
        self.assertEqual(standard_pattern(2), "ABA")
        rows = ["A", "ABA", "ABACABA", "ABACABADABACABA"]
        self.assertEqual([standard_pattern(number) for number in (1, 2, 3, 4)], rows)
        for number in (1, 2, 3, 4):
            self.assertEqual(standard_pattern(number), slow_standard_word(number).upper())
            self.assertEqual(index_of(standard_pattern(number)), number)

    def test_they_contain_the_sure_patterns(self):
        for number in (1, 2, 3, 4):
            for length in range(1, 7):
                for pattern in normal_patterns(length, 5):
                    chain = slow_shortest_chain(pattern)
                    expected = chain is not None and len(chain) <= number
                    self.assertIs(contains(standard_pattern(number), pattern), expected, (number, pattern))
        chance = random.Random(12)
        for _ in range(100):
            pattern = grown_pattern(chance, 15)
            for number in (3, 4):
                self.assertIs(contains(standard_pattern(number), pattern), index_of(pattern) <= number)

    def test_wrong_numbers(self):
        for value in NO_INTEGERS + [0, -1, 5, 6, 10, 2 ** 70, -2 ** 70]:
            with self.subTest(value=value):
                self.assertRaises(InvalidNumber, standard_pattern, value)


class Indexes(unittest.TestCase):
    """What points 9, 14 and 16 say together of patterns that are put together."""

    def rows(self, seed):
        chance = random.Random(seed)
        rows = [pattern for length in range(1, 6) for pattern in normal_patterns(length, 5)]
        rows += [grown_pattern(chance, 9) for _ in range(60)]
        return [(row, chance.choice([x for x in CAPITALS if x not in row])) for row in rows if len(set(row)) <= 6]

    def test_a_new_letter_between(self):
        for pattern, letter in self.rows(13):
            index = index_of(pattern)
            expected = None if index is None else index + 1
            self.assertEqual(index_of(pattern + letter + pattern), expected, (pattern, letter))

    def test_a_new_letter_before_or_behind(self):
        for pattern, letter in self.rows(14):
            index = index_of(pattern)
            for longer in (letter + pattern, pattern + letter):
                if index is None:
                    self.assertIsNone(index_of(longer))
                else:
                    self.assertIn(index_of(longer), (index, index + 1), longer)

    def test_repeated_letters_and_patterns(self):
        chance = random.Random(15)
        for pattern, _ in self.rows(16):
            self.assertIs(is_sure(pattern + pattern), False)
            self.assertIsNone(shortest_chain(pattern + pattern))
            mixed = list(pattern + pattern)
            chance.shuffle(mixed)
            self.assertIs(is_sure("".join(mixed)), False)
        for length in range(2, 7):
            for pattern in normal_patterns(length, 3):
                if min([pattern.count(letter) for letter in first_letters(pattern)]) > 1:
                    self.assertIs(is_sure(pattern), False)
