import random
import unittest

from surepatterns.errors import InvalidNumber, InvalidWord
from surepatterns.standard import find_in_standard, letter_at, standard_word
from tests.helper import NO_INTEGERS, NO_WORDS, SMALL, random_word, slow_letter_number, slow_standard_word

LAST = 2 ** 26 - 2


def text_at(place, length):
    return "".join([SMALL[slow_letter_number(place + step)] for step in range(length)])


def slow_find(word):
    """The highest letter n of a factor comes once, and stands for the first time at index 2 ** n - 1."""
    if word == "":
        return 0
    number = SMALL.index(max(word))
    place = 2 ** number - 1 - word.index(max(word))
    if place < 0 or max([slow_letter_number(place + step) for step in range(len(word))]) != number:
        return None
    return place if text_at(place, len(word)) == word else None


class StandardWord(unittest.TestCase):
    def test_examples(self):
        self.assertEqual(standard_word(3), "abacaba")
        self.assertEqual([standard_word(number) for number in range(3)], ["", "a", "aba"])
        self.assertEqual(standard_word(4), "abacabadabacaba")

    def test_by_the_definition(self):
        for number in range(11):
            self.assertEqual(standard_word(number), slow_standard_word(number))
            self.assertEqual(len(standard_word(number)), 2 ** number - 1)
        for number in range(10):
            word = standard_word(number)
            self.assertEqual(standard_word(number + 1), word + SMALL[number] + word)

    def test_other_values(self):
        for value in [-1, -2, 11, 12, 26, 2 ** 70, -2 ** 70] + NO_INTEGERS:
            with self.subTest(value=value):
                self.assertRaises(InvalidNumber, standard_word, value)


class LetterAt(unittest.TestCase):
    def test_examples(self):
        self.assertEqual(letter_at(7), "d")
        self.assertEqual([letter_at(index) for index in (0, 1, 2, 3, LAST)], ["a", "b", "a", "c", "a"])

    def test_by_the_standard_words(self):
        for index, letter in enumerate(slow_standard_word(10)):
            self.assertEqual(letter_at(index), letter)

    def test_by_the_exponent(self):
        chance = random.Random(1)
        for index in [chance.randint(0, LAST) for _ in range(1000)]:
            self.assertEqual(letter_at(index), SMALL[slow_letter_number(index)])
        for number in range(26):
            self.assertEqual(letter_at(2 ** number - 1), SMALL[number])
            for _ in range(20):
                odd = 2 * chance.randint(0, 2 ** (25 - number) - 1) + 1
                self.assertEqual(letter_at(odd * 2 ** number - 1), SMALL[number])

    def test_other_values(self):
        for value in [-1, -2, LAST + 1, LAST + 2, 2 ** 70, -2 ** 70] + NO_INTEGERS:
            with self.subTest(value=value):
                self.assertRaises(InvalidNumber, letter_at, value)


class FindInStandard(unittest.TestCase):
    def test_examples(self):
        self.assertEqual(find_in_standard("aca"), 2)
        self.assertEqual(find_in_standard(""), 0)
        self.assertEqual(find_in_standard("a"), 0)
        self.assertIsNone(find_in_standard("aa"))
        self.assertIsNone(find_in_standard("bc"))

    def test_single_letters(self):
        for number, letter in enumerate(SMALL):
            self.assertEqual(find_in_standard(letter), 2 ** number - 1)

    def test_all_short_words(self):
        rows = [""]
        for word in rows:
            found = slow_standard_word(10).find(word)
            self.assertEqual(find_in_standard(word), None if found == -1 else found, word)
            if len(word) < 5:
                rows += [word + letter for letter in "abcde"]

    def test_factors_of_standard_words(self):
        chance = random.Random(2)
        text = slow_standard_word(10)
        for _ in range(500):
            start = chance.randint(0, len(text))
            word = text[start:start + chance.randint(0, 200)]
            self.assertEqual(find_in_standard(word), text.find(word))
            for changed in changes(word, chance):
                found = text.find(changed)
                if changed == "" or max(changed) <= "j":
                    self.assertEqual(find_in_standard(changed), None if found == -1 else found, changed)

    def test_factors_of_the_endless_standard_word(self):
        chance = random.Random(3)
        for number in range(26):
            for _ in range(20):
                middle = (2 * chance.randint(0, 2 ** (25 - number) - 1) + 1) * 2 ** number - 1
                start = max(0, middle - chance.randint(0, 100))
                word = text_at(start, min(200, chance.randint(1, 100) + middle - start, LAST + 1 - start))
                place = find_in_standard(word)
                self.assertEqual(place, slow_find(word))
                self.assertLessEqual(place, start)
                self.assertEqual(text_at(place, len(word)), word)
                for changed in changes(word, chance):
                    self.assertEqual(find_in_standard(changed), slow_find(changed), changed)

    def test_around_the_letter_z(self):
        middle = 2 ** 25 - 1
        self.assertEqual(find_in_standard(text_at(middle - 199, 200)), middle - 199)
        self.assertEqual(find_in_standard(text_at(middle, 200)), middle)
        self.assertEqual(find_in_standard("aza"), middle - 1)
        self.assertIsNone(find_in_standard("bza"))
        self.assertIsNone(find_in_standard("azaza"))

    def test_words_by_chance(self):
        chance = random.Random(4)
        for _ in range(500):
            for letters in ("ab", "abc", SMALL):
                word = random_word(chance, chance.randint(0, 200), letters)
                self.assertEqual(find_in_standard(word), slow_find(word), word)

    def test_no_words(self):
        for value in NO_WORDS:
            with self.subTest(value=value):
                self.assertRaises(InvalidWord, find_in_standard, value)


def changes(word, chance):
    """The word with one letter changed, added and removed; none longer than a word may be."""
    place = chance.randint(0, len(word))
    letter = chance.choice("aabcdefghij")
    rows = [word[:place] + letter + word[place + 1:], word[:place] + letter + word[place:], word[:place] + word[place + 1:]]
    return [row for row in rows if len(row) <= 200]
