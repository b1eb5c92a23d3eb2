import random
import unittest

from surepatterns.avoiding import avoiding_words, count_avoiding, least_avoiding
from surepatterns.errors import InvalidNumber, InvalidPattern
from surepatterns.lengths import sure_length
from surepatterns.occurrences import meets
from tests.helper import (
    NO_INTEGERS, NO_PATTERNS, SMALL, all_words, normal_patterns, random_pattern, regex_meets, renamed, slow_meets,
    slow_shortest_chain, square_free, within_seconds,
)


def slow_avoiding(pattern, letters, length):
    """All words of the length that avoid the pattern, by trying each word."""
    return [word for word in all_words(letters, length) if not regex_meets(pattern, word)]


def slow_least(pattern, letters, length, word=""):
    if regex_meets(pattern, word):
        return None
    if len(word) == length:
        return word
    for letter in SMALL[:letters]:
        found = slow_least(pattern, letters, length, word + letter)
        if found is not None:
            return found
    return None


class Avoiding(unittest.TestCase):
    def check(self, pattern, letters, length):
        expected = slow_avoiding(pattern, letters, length)
        self.assertEqual(avoiding_words(pattern, letters, length), expected, (pattern, letters, length))
        self.assertEqual(count_avoiding(pattern, letters, length), len(expected))
        self.assertEqual(least_avoiding(pattern, letters, length), expected[0] if expected else None)
        return expected

    def test_examples(self):
        self.assertEqual(avoiding_words("AA", 2, 3), ["aba", "bab"])
        self.assertEqual(count_avoiding("AA", 2, 4), 0)
        self.assertEqual(least_avoiding("AA", 3, 5), "abaca")
        self.assertIsNone(least_avoiding("AA", 2, 4))

    def test_all_short_patterns(self):
        for size in range(1, 7):
            for pattern in normal_patterns(size, 4):
                for letters, longest in ((1, 7), (2, 5), (3, 3)):
                    for length in range(longest + 1):
                        self.check(pattern, letters, length)

    def test_longer_words(self):
        chance = random.Random(1)
        for size in range(1, 7):
            patterns = normal_patterns(size, 4)
            for pattern in chance.sample(patterns, min(25, len(patterns))):
                pattern = renamed(pattern, chance)[0]
                self.check(pattern, 2, 6)
                self.check(pattern, 2, 7)
                self.check(pattern, 3, 4)
        for pattern in ("AA", "AAA", "ABA", "ABAB", "AABA", "ABCAB", "AABB", "ZXYZ", "ABCABC", "ABCD"):
            for length in (5, 6, 7):
                self.check(pattern, 3, length)

    def test_the_plain_search_says_the_same(self):
        chance = random.Random(2)
        for _ in range(60):
            pattern = random_pattern(chance, chance.randint(1, 6), 4)
            length = chance.randint(0, 5)
            expected = [word for word in all_words(2, length) if not slow_meets(pattern, word)]
            self.assertEqual(avoiding_words(pattern, 2, length), expected)

    def test_known_numbers(self):
        squares = [count_avoiding("AA", 3, length) for length in range(8)]
        self.assertEqual(squares, [1, 3, 6, 12, 18, 30, 42, 60])
        cubes = [count_avoiding("BBB", 2, length) for length in range(8)]
        self.assertEqual(cubes, [1, 2, 4, 6, 10, 16, 24, 36])
        self.assertEqual([count_avoiding("AAAAAAAA", 3, length) for length in range(8)], [3 ** n for n in range(8)])

    def test_edges(self):
        for pattern in ("A", "Z", "AA", "ABCDEFG", "A" * 20):
            for letters in (1, 2, 3):
                self.assertEqual(avoiding_words(pattern, letters, 0), [""])
                self.assertEqual(count_avoiding(pattern, letters, 0), 1)
                self.assertEqual(least_avoiding(pattern, letters, 0), "")
        for length in range(1, 8):
            self.assertEqual(avoiding_words("A", 3, length), [])
            self.assertIsNone(least_avoiding("A", 3, length))
        self.assertEqual(avoiding_words("AA", 1, 1), ["a"])
        self.assertEqual(avoiding_words("A" * 8, 1, 7), ["a" * 7])
        self.assertEqual(avoiding_words("A" * 7, 1, 7), [])
        self.assertEqual(least_avoiding("A" * 11, 1, 10), "a" * 10)
        self.assertIsNone(least_avoiding("A" * 10, 1, 10))

    def test_one_letter_more(self):
        chance = random.Random(3)
        for _ in range(40):
            pattern = random_pattern(chance, chance.randint(2, 7), 4)
            words = avoiding_words(pattern, 3, 4)
            longer = [word + letter for word in words for letter in "abc"]
            self.assertEqual(avoiding_words(pattern, 3, 5), [word for word in longer if not meets(pattern, word)])
            for word in chance.sample(words, min(20, len(words))):
                factors = [word[start:end] for start in range(4) for end in range(start + 1, 5)]
                self.assertIs(any([meets(pattern, factor) for factor in factors]), False)

    def test_sure_patterns_at_their_sure_length(self):
        for size in range(1, 8):
            for pattern in normal_patterns(size, 4):
                chain = slow_shortest_chain(pattern)
                if chain is not None:
                    for letters in (1, 2, 3):
                        self.check_sure(pattern, len(chain), letters)

    def check_sure(self, pattern, index, letters):
        # Index 3 over two letters needs 197 letters, over three letters more.
        if index <= 2 or letters == 1:
            length = sure_length(index, letters)
            if length <= 7:
                self.assertEqual(avoiding_words(pattern, letters, length), [])
            if length <= 10:
                self.assertIsNone(least_avoiding(pattern, letters, length))

    def test_words_do_not_depend_on_the_names_of_letters(self):
        chance = random.Random(4)
        for _ in range(30):
            pattern = random_pattern(chance, chance.randint(1, 7), 5)
            other = renamed(pattern, chance)[0]
            self.assertEqual(avoiding_words(pattern, 2, 6), avoiding_words(other, 2, 6))
            self.assertEqual(least_avoiding(pattern, 3, 9), least_avoiding(other, 3, 9))

    def test_results_are_new(self):
        for arguments in (("AA", 2, 3), ("AA", 3, 0), ("A", 1, 1)):
            result = avoiding_words(*arguments)
            again = list(result)
            result.append("more")
            result.reverse()
            self.assertEqual(avoiding_words(*arguments), again)
            self.assertEqual(count_avoiding(*arguments), len(again))


class Least(unittest.TestCase):
    def test_short_patterns(self):
        for size in range(1, 6):
            for pattern in normal_patterns(size, 4):
                for letters, lengths in ((1, (8, 10)), (2, (8, 9, 10)), (3, (8, 10))):
                    for length in lengths:
                        self.assertEqual(
                            least_avoiding(pattern, letters, length), slow_least(pattern, letters, length), pattern,
                        )

    def test_long_patterns(self):
        chance = random.Random(5)
        for _ in range(80):
            pattern = random_pattern(chance, chance.randint(6, 20), chance.randint(1, 7))
            for letters in (1, 2, 3):
                length = chance.randint(6, 10)
                self.assertEqual(least_avoiding(pattern, letters, length), slow_least(pattern, letters, length))

    def test_squares(self):
        for length in range(11):
            self.assertEqual(least_avoiding("AA", 3, length), square_free(length))
            self.assertEqual(least_avoiding("XX", 2, length), ["", "a", "ab", "aba"][length] if length < 4 else None)

    def test_it_avoids_and_none_is_less(self):
        chance = random.Random(6)
        for _ in range(60):
            pattern = random_pattern(chance, chance.randint(2, 7), 3)
            for length in range(8):
                words = avoiding_words(pattern, 2, length)
                self.assertEqual(least_avoiding(pattern, 2, length), words[0] if words else None)


class Errors(unittest.TestCase):
    def test_no_patterns(self):
        for value in NO_PATTERNS:
            with self.subTest(value=value):
                for call in (avoiding_words, count_avoiding, least_avoiding):
                    self.assertRaises(InvalidPattern, call, value, 2, 3)
                    self.assertRaises(InvalidPattern, call, value, 0, 99)
                    self.assertRaises(InvalidPattern, call, value, None, None)

    def test_wrong_numbers_of_letters(self):
        for value in NO_INTEGERS + [0, -1, 4, 5, 26, 2 ** 70, -2 ** 70]:
            with self.subTest(value=value):
                for call in (avoiding_words, count_avoiding, least_avoiding):
                    self.assertRaises(InvalidNumber, call, "AA", value, 3)
                    self.assertRaises(InvalidNumber, call, "AA", value, 0)

    def test_wrong_lengths(self):
        for value in NO_INTEGERS + [-1, 8, 10, 11, 2 ** 70, -2 ** 70]:
            with self.subTest(value=value):
                for letters in (1, 2, 3):
                    self.assertRaises(InvalidNumber, avoiding_words, "AA", letters, value)
                    self.assertRaises(InvalidNumber, count_avoiding, "AA", letters, value)
        for value in NO_INTEGERS + [-1, 11, 12, 2 ** 70, -2 ** 70]:
            with self.subTest(value=value):
                for letters in (1, 2, 3):
                    self.assertRaises(InvalidNumber, least_avoiding, "AA", letters, value)


class Hardest(unittest.TestCase):
    FOUR = ("ABACBC", "ABCDEFGA", "AAAAAAAA", "QQRRSSTTQQ")

    def test_patterns_about_as_long_as_the_words(self):
        chance = random.Random(7)
        for size in (4, 5, 6, 7, 8, 9, 10, 20):
            for _ in range(5):
                pattern = random_pattern(chance, size, min(size, chance.randint(2, 7)))
                for length in (size - 1, size, size + 1, 7):
                    if length <= 7:
                        letters = 3 if length < 6 else 2
                        words = [word for word in all_words(letters, length) if not slow_meets(pattern, word)]
                        self.assertEqual(avoiding_words(pattern, letters, length), words, (pattern, length))
                        self.assertEqual(count_avoiding(pattern, letters, length), len(words))

    def test_three_letters_and_length_seven(self):
        for pattern in self.FOUR + ("ABCDEFA", "AABBCC", "ABCABC", "ABCDEF", "ABBCCA", "AABCBC"):
            words = slow_avoiding(pattern, 3, 7)
            self.assertEqual(avoiding_words(pattern, 3, 7), words)
            self.assertEqual(count_avoiding(pattern, 3, 7), len(words))
        for pattern in ("ABACBC", "ABCDEFGA"):
            words = [word for word in all_words(3, 7) if not slow_meets(pattern, word)]
            self.assertEqual(avoiding_words(pattern, 3, 7), words)

    def test_a_hundred_calls(self):
        for pattern in self.FOUR:
            with within_seconds(self, 10):
                for _ in range(100):
                    avoiding_words(pattern, 3, 7)

    def test_lists_of_long_words(self):
        with within_seconds(self, 20):
            for pattern in ("AAAB", "ABCDAE", "AAABAC", "AABACD", "ABCDEFG", "AABBCCDDEEFFGG", "ABCDEFGABCDEFGABCDEF"):
                words = avoiding_words(pattern, 3, 7)
                self.assertEqual(count_avoiding(pattern, 3, 7), len(words))
                self.assertEqual(words, slow_avoiding(pattern, 3, 7))

    def test_least_words(self):
        with within_seconds(self, 20):
            for pattern in ("ABACDE", "ABCDCE", "ABCBDE", "ABCDED", "ABCDEFG", "ABCDEFGA", "AABBCCDDEEFFGG", "ABCABC"):
                self.assertEqual(least_avoiding(pattern, 3, 10), slow_least(pattern, 3, 10))
