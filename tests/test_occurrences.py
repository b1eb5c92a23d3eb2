import random
import time
import unittest
from math import comb

from surepatterns.errors import InvalidNumber, InvalidPattern, InvalidWord, TooLong, TooMany
from surepatterns.occurrences import count_occurrences, first_occurrence, meets, occurrences_at
from tests.helper import (
    CAPITALS, NO_INTEGERS, NO_PATTERNS, NO_WORDS, SMALL, first_letters, normal_patterns, put_in, random_pattern,
    random_word, slow_occurrences, square_free, within_seconds,
)


class Compared(unittest.TestCase):
    """Compares with the plain search."""

    def compare(self, pattern, word):
        rows = [slow_occurrences(pattern, word, start) for start in range(len(word) + 1)]
        for start, row in enumerate(rows):
            if len(row) > 300:
                self.assertRaises(TooMany, occurrences_at, pattern, word, start)
            else:
                self.assertEqual(occurrences_at(pattern, word, start), row, (pattern, word, start))
        everything = sum(rows, [])
        least = min(everything) if everything else None
        self.assertEqual(first_occurrence(pattern, word), least, (pattern, word))
        self.assertIs(meets(pattern, word), least is not None)
        if len(word) <= 16:
            self.assertEqual(count_occurrences(pattern, word), len(everything), (pattern, word))
        else:
            self.assertRaises(TooLong, count_occurrences, pattern, word)
        return least

    def test_all_short_patterns(self):
        chance = random.Random(1)
        for length in range(1, 7):
            for pattern in normal_patterns(length, 4):
                for letters in ("a", "ab", "abc"):
                    self.compare(pattern, random_word(chance, chance.randint(0, 12), letters))

    def test_all_short_words(self):
        words = [""]
        for word in words:
            if len(word) < 5:
                words += [word + letter for letter in "ab"]
        for word in words:
            for pattern in ("A", "AA", "AB", "ABA", "AAB", "ABB", "ABAB", "ABBA", "ABCBA"):
                self.compare(pattern, word)

    def test_patterns_with_any_letters(self):
        chance = random.Random(2)
        for _ in range(150):
            pattern = random_pattern(chance, chance.randint(1, 6), 4)
            self.compare(pattern, random_word(chance, chance.randint(8, 12), chance.choice(["az", "xyz"])))

    def test_long_patterns(self):
        chance = random.Random(3)
        met = 0
        for _ in range(60):
            pattern = random_pattern(chance, chance.randint(12, 20), chance.randint(1, 7))
            for letters in ("a", "ab", "abc"):
                word = random_word(chance, chance.randint(14, 24), letters)
                met += self.compare(pattern, word) is not None
        self.assertGreater(met, 30)

    def test_patterns_of_seven_letters(self):
        chance = random.Random(4)
        for pattern in ("ABCDEFGABCDEFG", "ABCDEFGGFEDCBA", "AABBCCDDEEFFGG", "ABACADAEAFAGA", "ABCDEFGGGGGGG"):
            for word in ("a" * 24, "ab" * 12, square_free(24), random_word(chance, 16, "ab")):
                self.compare(pattern, word)

    def test_letters_that_come_once(self):
        self.assertIsNone(self.compare("ABCDEFGG", square_free(24)))
        self.assertIsNotNone(self.compare("ABCDEFGA", square_free(24)))


class Planted(unittest.TestCase):
    """Occurrences that a test puts into a word are found."""

    def test_planted(self):
        chance = random.Random(5)
        done = 0
        while done < 400:
            pattern = random_pattern(chance, chance.randint(1, 20), chance.randint(1, 7))
            words = tuple([random_word(chance, chance.randint(1, 3), "abc") for _ in first_letters(pattern)])
            value = put_in(pattern, words)
            if len(value) > 24:
                continue
            before = random_word(chance, chance.randint(0, 24 - len(value)), "abc")
            word = before + value + random_word(chance, chance.randint(0, 24 - len(value) - len(before)), "abc")
            planted = (len(before), len(before) + len(value), words)
            self.check(pattern, word, planted)
            done += 1

    def check(self, pattern, word, planted):
        self.assertIs(meets(pattern, word), True)
        first = first_occurrence(pattern, word)
        self.assertLessEqual(first, planted)
        self.assertEqual(put_in(pattern, first[2]), word[first[0]:first[1]])
        try:
            self.assertIn(planted, occurrences_at(pattern, word, planted[0]))
        except TooMany:
            self.assertGreater(len(word), 9)
        if len(word) <= 16:
            self.assertGreaterEqual(count_occurrences(pattern, word), 1)


class Formulas(unittest.TestCase):
    def test_different_letters_choose_cuts(self):
        chance = random.Random(6)
        for many in range(1, 8):
            pattern = CAPITALS[3:3 + many]
            for length in range(17):
                word = random_word(chance, length, "ab")
                self.assertEqual(count_occurrences(pattern, word), comb(length + 1, many + 1))
            for length in (0, 1, many, 12, 24):
                word = random_word(chance, length, SMALL)
                for start in range(length + 1):
                    self.check_row(pattern, word, start, comb(length - start, many))

    def check_row(self, pattern, word, start, many):
        if many > 300:
            self.assertRaises(TooMany, occurrences_at, pattern, word, start)
        else:
            self.assertEqual(len(occurrences_at(pattern, word, start)), many)

    def test_first_occurrence_of_different_letters(self):
        self.assertEqual(first_occurrence("ABCDEFG", SMALL[:24]), (0, 7, tuple("abcdefg")))
        self.assertIsNone(first_occurrence("ABCDEFG", "abcdef"))

    def test_words_without_squares(self):
        word = square_free(24)
        for pattern in ("AA", "ABAB", "ABCC", "AABCDEFG", "ABCDEFGG", "ABCGGDEF", "ABCDEFEFG", "ABCDEFGABCDEFG"):
            self.assertIs(meets(pattern, word), False, pattern)
            self.assertIsNone(first_occurrence(pattern, word))
            self.assertEqual(count_occurrences(pattern, word[:16]), 0)
            for start in range(25):
                self.assertEqual(occurrences_at(pattern, word, start), [])

    def test_words_of_one_letter(self):
        for length in range(25):
            self.assertIs(meets("ABCDEFGABCDEFG", "a" * length), length >= 14)
            self.assertIs(meets("A" * 20, "z" * length), length >= 20)
        self.assertEqual(count_occurrences("AA", "a" * 16), sum(range(15, 0, -2)))

    def test_hardest(self):
        words = (square_free(24), "a" * 24, "ab" * 12, "abcdefghijklmnopqrstuvwx")
        patterns = ("ABCDEFG", "ABCDEFGG", "ABCDEFGA", "ABCDEAFG", "ABCADEFGA", "ABCDEFGABC", "ABCDEFGABCDEFG")
        with within_seconds(self, 20):
            for pattern in patterns:
                for word in words:
                    first = first_occurrence(pattern, word)
                    self.assertIs(meets(pattern, word), first is not None)
                    self.assertLessEqual(count_occurrences(pattern, word[:16]), comb(17, 8))
                    if first is not None:
                        self.assertEqual(put_in(pattern, first[2]), word[first[0]:first[1]])


class ManyOccurrences(unittest.TestCase):
    """Lists of some hundred occurrences."""

    HARDEST = [("ABAC", "aaaaaaaaaaabaaababb", 300), ("AB", "a" * 24, 276), ("ACB", "a" * 13, 286)]

    def test_hardest(self):
        for pattern, word, many in self.HARDEST:
            expected = slow_occurrences(pattern, word, 0)
            self.assertEqual(len(expected), many)
            self.assertEqual(occurrences_at(pattern, word, 0), expected)

    def test_drawn(self):
        chance = random.Random(7)
        sizes = []
        for _ in range(400):
            pattern = random_pattern(chance, chance.randint(2, 6), chance.randint(2, 4))
            word = random_word(chance, chance.randint(12, 24), chance.choice(["a", "aaab", "aaaaaaaaab"]))
            start = chance.choice([0, 0, 1, chance.randint(0, len(word))])
            expected = slow_occurrences(pattern, word, start)
            sizes.append(len(expected))
            if len(expected) > 300:
                self.assertRaises(TooMany, occurrences_at, pattern, word, start)
            else:
                self.assertEqual(occurrences_at(pattern, word, start), expected, (pattern, word, start))
        self.assertGreater(len([size for size in sizes if 100 <= size <= 300]), 50)
        self.assertGreater(len([size for size in sizes if size > 300]), 20)

    def test_time(self):
        # They need less than a tenth of this; a machine may be busy once, but hardly five times.
        fastest = min([self.seconds() for _ in range(5)])
        self.assertLess(fastest, 1)

    def seconds(self):
        start = time.monotonic()
        for pattern, word, _ in self.HARDEST:
            for _ in range(100):
                occurrences_at(pattern, word, 0)
        return time.monotonic() - start


class Examples(unittest.TestCase):
    def test_examples(self):
        expected = [(0, 2, ("a", "b")), (0, 3, ("a", "ba")), (0, 3, ("ab", "a"))]
        self.assertEqual(occurrences_at("AB", "aba", 0), expected)
        self.assertEqual(first_occurrence("AA", "banana"), (1, 5, ("an",)))
        self.assertIs(meets("ABBA", "banana"), False)
        self.assertEqual(count_occurrences("AA", "banana"), 2)

    def test_order(self):
        self.assertEqual(occurrences_at("ZA", "abc", 0), [(0, 2, ("a", "b")), (0, 3, ("a", "bc")), (0, 3, ("ab", "c"))])
        self.assertEqual(first_occurrence("ABA", "zabacaba"), (1, 4, ("a", "b")))

    def test_results_are_new(self):
        for pattern, word, start in (("AB", "aba", 0), ("AA", "ab", 1), ("A", "", 0)):
            result = occurrences_at(pattern, word, start)
            again = list(result)
            result.append("more")
            self.assertEqual(occurrences_at(pattern, word, start), again)


class Errors(unittest.TestCase):
    def test_no_patterns(self):
        for value in NO_PATTERNS:
            with self.subTest(value=value):
                for call in (first_occurrence, meets, count_occurrences):
                    self.assertRaises(InvalidPattern, call, value, "aba")
                    self.assertRaises(InvalidPattern, call, value, None)
                self.assertRaises(InvalidPattern, occurrences_at, value, "aba", 0)
                self.assertRaises(InvalidPattern, occurrences_at, value, "A" * 300, -1)

    def test_no_words(self):
        for value in NO_WORDS:
            with self.subTest(value=value):
                for call in (first_occurrence, meets, count_occurrences):
                    self.assertRaises(InvalidWord, call, "ABA", value)
                self.assertRaises(InvalidWord, occurrences_at, "ABA", value, 0)
                self.assertRaises(InvalidWord, occurrences_at, "ABA", value, -1)

    def test_long_words(self):
        for length in (25, 26, 100, 200):
            for call in (first_occurrence, meets, count_occurrences):
                self.assertRaises(TooLong, call, "A", "a" * length)
            self.assertRaises(TooLong, occurrences_at, "A", "a" * length, 0)
            self.assertRaises(TooLong, occurrences_at, "A", "a" * length, -1)
            self.assertRaises(TooLong, occurrences_at, "A", "a" * length, None)
        self.assertIs(meets("A", "a" * 24), True)
        self.assertEqual(first_occurrence("A" * 20, "a" * 24), (0, 20, ("a",)))
        self.assertEqual(len(occurrences_at("A", "a" * 24, 0)), 24)

    def test_words_too_long_to_count(self):
        self.assertEqual(count_occurrences("A", "a" * 16), 136)
        for length in (17, 18, 24):
            self.assertRaises(TooLong, count_occurrences, "A", "a" * length)

    def test_starts(self):
        for word in ("", "a", "abcab"):
            for start in [-1, -2, -2 ** 70, len(word) + 1, len(word) + 2, 2 ** 70] + NO_INTEGERS:
                self.assertRaises(InvalidNumber, occurrences_at, "A", word, start)
            self.assertEqual(occurrences_at("A", word, len(word)), [])

    def test_number_comes_before_too_many(self):
        self.assertRaises(TooMany, occurrences_at, "ABC", "a" * 24, 0)
        self.assertRaises(InvalidNumber, occurrences_at, "ABC", "a" * 24, 25)
        self.assertRaises(InvalidNumber, occurrences_at, "ABC", "a" * 24, False)

    def test_three_hundred(self):
        fits = ("ABDD", "aaaaaaaaaaaaaabaaaaaa")
        over = ("CACCB", "aaaaaaaaaaaaaaabbbaaa")
        self.assertEqual(len(slow_occurrences(*fits, 0)), 300)
        self.assertEqual(len(slow_occurrences(*over, 0)), 301)
        self.assertEqual(occurrences_at(*fits, 0), slow_occurrences(*fits, 0))
        self.assertRaises(TooMany, occurrences_at, *over, 0)

    def test_about_three_hundred(self):
        for pattern, word in (("CADBC", "aaaaabaaaabaaa"), ("DCAC", "aaabbaaaaaaaaaaaaaaa"), ("ABCA", "a" * 16)):
            row = slow_occurrences(pattern, word, 0)
            self.assertGreater(len(row), 200)
            self.assertEqual(occurrences_at(pattern, word, 0), row)
        for pattern, word in (("ABCA", "a" * 17), ("BBACB", "aaaaaaaaabaaaabbaaaaaa"), ("DABDC", "aabbaabaaaabbaa")):
            self.assertLess(len(slow_occurrences(pattern, word, 0)), 310)
            self.assertRaises(TooMany, occurrences_at, pattern, word, 0)
