import random
import unittest

from surepatterns.chains import index_of
from surepatterns.errors import InvalidNumber, InvalidPattern, InvalidWord, NotSure, TooLarge, TooShort
from surepatterns.lengths import sure_length, sure_occurrence
from surepatterns.order import standard_pattern
from surepatterns.standard import standard_word
from tests.helper import (
    CAPITALS, NO_INTEGERS, NO_PATTERNS, NO_WORDS, SMALL, first_letters, grown_pattern, normal_patterns, put_in,
    random_pattern, regex_meets, slow_shortest_chain, slow_standard_word, within_seconds,
)


def slow_length(number, letters):
    """The sure length by the rule of point 14, or None if it has more than 1000 digits."""
    length = 1
    for _ in range(number - 1):
        if letters > 1 and length > 5000:
            return None
        length = (length + 1) * (letters ** length + 1) - 1
    return length if length < 10 ** 1000 else None


def word_with(chance, length, many):
    """A word with exactly so many different letters."""
    letters = chance.sample(SMALL, many)
    rest = [chance.choice(letters) for _ in range(length - many)]
    row = letters + rest
    chance.shuffle(row)
    return "".join(row)


class Length(unittest.TestCase):
    def test_examples(self):
        self.assertEqual(sure_length(2, 3), 7)
        self.assertEqual(sure_length(1, 1), 1)
        self.assertEqual(sure_length(1, 26), 1)

    def test_by_hand(self):
        for letters in range(1, 27):
            self.assertEqual(sure_length(1, letters), 1)
            self.assertEqual(sure_length(2, letters), 2 * letters + 1)
            self.assertEqual(sure_length(3, letters), (2 * letters + 2) * (letters ** (2 * letters + 1) + 1) - 1)
        self.assertEqual(sure_length(3, 2), 197)
        self.assertEqual(sure_length(3, 3), 17503)
        self.assertEqual(sure_length(4, 2), 198 * (2 ** 197 + 1) - 1)
        self.assertEqual(sure_length(3, 26), 54 * (26 ** 53 + 1) - 1)
        self.assertEqual(sure_length(10, 1), 1023)

    def test_all(self):
        with within_seconds(self, 5):
            for number in range(1, 11):
                for letters in range(1, 27):
                    expected = slow_length(number, letters)
                    if expected is None:
                        self.assertRaises(TooLarge, sure_length, number, letters)
                    else:
                        self.assertEqual(sure_length(number, letters), expected)

    def test_too_large(self):
        for number, letters in ((4, 3), (4, 26), (5, 2), (5, 3), (6, 2), (10, 2), (10, 26)):
            self.assertRaises(TooLarge, sure_length, number, letters)

    def test_growth(self):
        for number in range(1, 11):
            for letters in range(1, 27):
                here = slow_length(number, letters)
                if here is None:
                    continue
                self.assertEqual(sure_length(number, letters), here)
                if number < 10 and slow_length(number + 1, letters) is not None:
                    self.assertLess(here, sure_length(number + 1, letters))
                if letters < 26 and slow_length(number, letters + 1) is not None:
                    self.assertLessEqual(here, sure_length(number, letters + 1))
                    self.assertEqual(here == sure_length(number, letters + 1), number == 1)

    def test_one_letter(self):
        for number in range(1, 11):
            self.assertEqual(sure_length(number, 1), len(standard_word(number)))

    def test_wrong_numbers(self):
        for value in NO_INTEGERS + [0, -1, 11, 12, 2 ** 70, -2 ** 70]:
            with self.subTest(value=value):
                self.assertRaises(InvalidNumber, sure_length, value, 1)
                self.assertRaises(InvalidNumber, sure_length, value, 26)
                self.assertRaises(InvalidNumber, sure_length, value, None)
        for value in NO_INTEGERS + [0, -1, 27, 28, 2 ** 70, -2 ** 70]:
            with self.subTest(value=value):
                for number in (1, 2, 10):
                    self.assertRaises(InvalidNumber, sure_length, number, value)


class Occurrence(unittest.TestCase):
    def check(self, pattern, word):
        occurrence = sure_occurrence(pattern, word)
        start, end, words = occurrence
        self.assertIsInstance(occurrence, tuple)
        self.assertIsInstance(words, tuple)
        self.assertEqual(len(words), len(first_letters(pattern)))
        self.assertNotIn("", words)
        self.assertTrue(0 <= start < end <= len(word))
        self.assertEqual(put_in(pattern, words), word[start:end], (pattern, word, occurrence))
        self.assertEqual(sure_occurrence(pattern, word), occurrence)

    def sizes(self, index):
        """All numbers of letters and lengths from the sure length on that words can have."""
        rows = [(many, slow_length(index, many)) for many in range(1, 27)]
        return [(many, least) for many, least in rows if least is not None and least <= 200]

    def test_examples(self):
        self.assertEqual(sure_occurrence("A", "z"), (0, 1, ("z",)))
        self.check("ABA", "aaa")
        self.check("ABA", "xyzzyxx")

    def test_long_enough_words(self):
        chance = random.Random(1)
        indexes = []
        for pattern in self.patterns(chance):
            index = len(slow_shortest_chain(pattern))
            indexes.append(index)
            for many, least in chance.sample(self.sizes(index), min(3, len(self.sizes(index)))):
                for length in (least, chance.randint(least, 200), 200):
                    if length >= many:
                        self.check(pattern, word_with(chance, length, many))
        self.assertLessEqual({1, 2, 3, 4, 5}, set(indexes))

    def patterns(self, chance):
        text = slow_standard_word(6).upper()
        rows = [grown_pattern(chance, 20) for _ in range(120)]
        rows += [text[start:start + size] for start in (0, 5, 8, 12, 20) for size in (1, 3, 7, 15, 20)]
        rows += [CAPITALS[5:5 + size] for size in range(1, 8)] + ["ABA", "ABCBA", "Z", "ABACADA"]
        return [pattern for pattern in rows if slow_shortest_chain(pattern) is not None]

    def test_all_short_sure_patterns(self):
        chance = random.Random(2)
        for length in range(1, 7):
            for pattern in normal_patterns(length, 6):
                chain = slow_shortest_chain(pattern)
                if chain is not None:
                    for many, least in self.sizes(len(chain))[:3]:
                        self.check(pattern, word_with(chance, max(least, many), many))

    def test_all_words_of_the_sure_length(self):
        for pattern in ("ABA", "AB", "ABC", "BAC"):
            for number in range(2 ** 5):
                word = "".join(["xy"[number >> at & 1] for at in range(5)])
                self.check(pattern, word)

    def test_many_words_for_index_three(self):
        chance = random.Random(3)
        for pattern in ("ABACABA", "ABACAB", "ABACD", "ABCDEFA"):
            self.assertEqual(index_of(pattern), 3)
            for _ in range(40):
                self.check(pattern, word_with(chance, chance.randint(197, 200), 2))

    def test_too_short(self):
        chance = random.Random(4)
        for pattern in ("ABA", "ABACABA", "ABACABADABACABA", "ABCDEFG", "AB", "ABCA"):
            index = len(slow_shortest_chain(pattern))
            for many in range(1, 27):
                least = slow_length(index, many)
                longest = 200 if least is None else min(200, least - 1)
                for length in (longest, many, chance.randint(many, max(many, longest))):
                    if many <= length <= longest:
                        self.assertRaises(TooShort, sure_occurrence, pattern, word_with(chance, length, many))

    def test_empty_word(self):
        for pattern in ("A", "AB", "ABA", "ABACABA"):
            self.assertRaises(TooShort, sure_occurrence, pattern, "")

    def test_word_that_avoids(self):
        for many in range(1, 27):
            word = "".join([letter * 2 for letter in SMALL[:many]])
            self.assertIs(regex_meets("ABA", word), False)
            self.assertRaises(TooShort, sure_occurrence, "ABA", word)
            self.assertIs(regex_meets("ABA", word + "a"), True)
            self.check("ABA", word + "a")

    def test_standard_patterns_in_words_of_one_letter(self):
        for number in range(1, 5):
            least = 2 ** number - 1
            self.check(standard_pattern(number), "q" * least)
            self.check(standard_pattern(number), "q" * 200)
            if number > 1:
                self.assertRaises(TooShort, sure_occurrence, standard_pattern(number), "q" * (least - 1))

    def test_errors(self):
        for value in NO_PATTERNS:
            with self.subTest(value=value):
                for word in ("a" * 200, "", None, "A"):
                    self.assertRaises(InvalidPattern, sure_occurrence, value, word)
        for value in NO_WORDS:
            with self.subTest(value=value):
                for pattern in ("A", "AA", "ABA"):
                    self.assertRaises(InvalidWord, sure_occurrence, pattern, value)
        for word in ("", "a", "a" * 200):
            for pattern in ("AA", "ABAB", "A" * 20, "ABCABC"):
                self.assertRaises(NotSure, sure_occurrence, pattern, word)

    def test_patterns_by_chance(self):
        chance = random.Random(5)
        for _ in range(100):
            pattern = random_pattern(chance, chance.randint(1, 8), 7)
            if slow_shortest_chain(pattern) is None:
                self.assertRaises(NotSure, sure_occurrence, pattern, "a" * 200)
            else:
                self.check(pattern, "a" * 200)

    def test_hardest(self):
        chance = random.Random(6)
        rows = [pattern for pattern in [grown_pattern(chance, 20) for _ in range(200)] if len(set(pattern)) == 7]
        with within_seconds(self, 20):
            for pattern in rows + [slow_standard_word(6).upper()[:20]]:
                self.check(pattern, "a" * 200)
