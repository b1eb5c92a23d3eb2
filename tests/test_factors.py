import random
import unittest

from surepatterns.errors import InvalidNumber, InvalidWord
from surepatterns.factors import factor_place, factors_of, is_factor, is_factor_list
from surepatterns.wrongs import InvalidRule
from tests.helper import (
    NESTED_LIST, NESTED_TUPLE, NO_INTEGERS, NO_STRINGS, NO_WORDS, SMALL, all_words, random_word, within_seconds,
)
from tests.slow_rules import (
    BY_DELAY, BY_HAND, FIBONACCI, LATE, MORSE, NO_DELAY, NO_RULES, ONCE, SOME_NO_RULES, letters_of_rule, random_rule,
    slow_factors, slow_image, slow_is_factor, slow_place, slow_start, slow_word,
)


def some_rules(seed, many):
    """Rules of every size by chance, and those by hand."""
    chance = random.Random(seed)
    drawn = [random_rule(chance, 2 + at % 3, 2 + at // 3 % 3) for at in range(many)]
    return BY_HAND + NO_DELAY + BY_DELAY + drawn


def changed(word, at, rule, chance):
    """The word with another letter of the rule at one index."""
    return word[:at] + chance.choice([letter for letter in letters_of_rule(rule) if letter != word[at]]) + word[at + 1:]


def far_words(rule, chance):
    """Words read off at far places and at the beginning, and the same with one letter changed."""
    rows = []
    for place in (0, chance.randrange(50), chance.randrange(10 ** 6), chance.randrange(10 ** 40)):
        word = slow_word(rule, place, chance.choice([17, 18, 40, 100, 199, 200]))
        rows += [word, changed(word, len(word) - 1, rule, chance), changed(word, chance.randrange(len(word)), rule, chance)]
    return rows


class FactorsOf(unittest.TestCase):
    def test_examples(self):
        self.assertEqual(factors_of(MORSE, 3), ["aab", "aba", "abb", "baa", "bab", "bba"])
        self.assertEqual(factors_of(MORSE, 0), [""])
        self.assertEqual(factors_of(("ab", "bb"), 4), ["abbb", "bbbb"])
        self.assertEqual(factors_of(("aa", "bb"), 16), ["a" * 16])
        self.assertEqual(factors_of(ONCE, 2), ["ab", "bb", "bc", "cb", "cc"])

    def test_all_lengths(self):
        for rule in some_rules(1, 36):
            for length in range(17):
                self.assertEqual(factors_of(rule, length), list(slow_factors(rule, length)), (rule, length))

    def test_numbers_of_factors(self):
        # The known numbers for these two words.
        self.assertEqual([len(factors_of(MORSE, n)) for n in range(9)], [1, 2, 4, 6, 10, 12, 16, 20, 22])
        self.assertEqual([len(factors_of(FIBONACCI, n)) for n in range(9)], [1, 2, 3, 5, 6, 8, 10, 11, 12])

    def test_letters_that_never_come(self):
        self.assertEqual(factors_of(("ab", "ba", "cc"), 1), ["a", "b"])
        self.assertEqual(factors_of(("aa", "bc", "cb", "dd"), 2), ["aa"])

    def test_wrong_lengths(self):
        for value in NO_INTEGERS + [-1, 17, 18, 2 ** 70, -2 ** 70]:
            with self.subTest(value=value):
                self.assertRaises(InvalidNumber, factors_of, MORSE, value)

    def test_hardest(self):
        chance = random.Random(2)
        with within_seconds(self, 20):
            for _ in range(400):
                factors_of(random_rule(chance, 4, 4), 16)
                factors_of(random_rule(chance, 4, 2), 16)


class Places(unittest.TestCase):
    def check(self, rule, word):
        place = factor_place(rule, word)
        self.assertEqual(place, slow_place(rule, word), (rule, word))
        self.assertIs(is_factor(rule, word), place is not None)
        if place is not None:
            self.assertEqual(slow_word(rule, place, len(word)), word)
        return place

    def test_examples(self):
        self.assertIs(is_factor(MORSE, "ababab"), False)
        self.assertEqual(factor_place(MORSE, "aa"), 5)
        self.assertIsNone(factor_place(MORSE, "aaa"))
        self.assertEqual(factor_place(("ab", "bb"), "b" * 200), 1)
        self.assertEqual(factor_place(LATE, "dc"), slow_start(LATE, 20000).find("dc"))
        self.assertEqual(factor_place(LATE, "dc"), 12543)

    def test_the_empty_word(self):
        for rule in some_rules(3, 9):
            self.assertEqual(factor_place(rule, ""), 0)
            self.assertIs(is_factor(rule, ""), True)

    def test_short_words(self):
        for rule in some_rules(4, 27):
            start = slow_start(rule, 3000)
            for length in range(1, 5):
                for word in all_words(len(rule), length):
                    place = self.check(rule, word)
                    if place is None or place < 2500:
                        self.assertEqual(start.find(word), -1 if place is None else place)

    def test_factors_and_words_near_them(self):
        chance = random.Random(5)
        for rule in some_rules(6, 27):
            for length in (5, 9, 13, 16):
                for word in chance.sample(slow_factors(rule, length), min(6, len(slow_factors(rule, length)))):
                    self.assertIsNotNone(self.check(rule, word))
                    self.check(rule, changed(word, chance.randrange(length), rule, chance))
                    self.check(rule, random_word(chance, length, letters_of_rule(rule)))

    def test_long_words(self):
        chance = random.Random(7)
        answers = []
        for rule in some_rules(8, 45):
            for at, word in enumerate(far_words(rule, chance)):
                answers.append(self.check(rule, word))
                if at % 3 == 0:
                    self.assertIsNotNone(answers[-1])
        self.assertGreater(answers.count(None), 100)

    def test_images_of_words(self):
        chance = random.Random(9)
        for rule in some_rules(10, 27):
            word = random_word(chance, chance.randint(1, 8), letters_of_rule(rule))
            while len(word) * len(rule[0]) <= 200:
                word = slow_image(rule, word)
                self.check(rule, word)

    def test_factors_of_factors_and_images(self):
        chance = random.Random(11)
        for rule in some_rules(12, 18):
            word = slow_word(rule, chance.randrange(10 ** 20), 50)
            place = factor_place(rule, word)
            for _ in range(10):
                start, end = sorted([chance.randint(0, 50), chance.randint(0, 50)])
                self.assertLessEqual(factor_place(rule, word[start:end]), place + start)
            self.assertLessEqual(factor_place(rule, slow_image(rule, word)), len(rule[0]) * place)

    def test_hardest(self):
        chance = random.Random(13)
        rows = [(rule, slow_word(rule, chance.randrange(10 ** 40), 200)) for rule in some_rules(14, 27)]
        with within_seconds(self, 30):
            for rule, word in rows * 20:
                self.assertIs(is_factor(rule, word), True)


class IsFactorList(unittest.TestCase):
    def check(self, rule, length, words):
        """By the words of point 20, for lists of words of this length."""
        expected = slow_start(rule, length) in words
        for word in words:
            text = slow_image(rule, word)
            inner = [text[index:index + length] for index in range(len(text) - length + 1)]
            expected = expected and all([part in words for part in inner])
        self.assertIs(is_factor_list(rule, length, words), expected, (rule, length, words))
        return expected

    def grown(self, rule, length, words):
        """The least list with some words that is closed."""
        words = list(words)
        for word in words:
            text = slow_image(rule, word)
            for index in range(len(text) - length + 1):
                if text[index:index + length] not in words:
                    words.append(text[index:index + length])
        return words

    def test_closed_lists(self):
        chance = random.Random(15)
        for rule in some_rules(16, 18):
            for length in (1, 2, 3, 4, 6, 9, 13, 16):
                words = list(slow_factors(rule, length))
                chance.shuffle(words)
                self.assertIs(is_factor_list(rule, length, words), True, (rule, length))
                self.assertIs(is_factor_list(rule, length, words + words[:2]), True)
                for _ in range(3):
                    left_out = chance.choice(words)
                    self.assertIs(is_factor_list(rule, length, [word for word in words if word != left_out]), False)
                self.assertIs(is_factor_list(rule, length + 1 if length < 16 else 15, words), False)

    def test_greater_lists(self):
        chance = random.Random(17)
        answers = []
        for rule in some_rules(18, 27):
            for length in (1, 2, 3, 5, 8):
                factors = list(slow_factors(rule, length))
                other = random_word(chance, length, letters_of_rule(rule))
                answers.append(self.check(rule, length, factors + [other]))
                words = self.grown(rule, length, factors + [other])
                self.assertIs(self.check(rule, length, words), True)
                left_out = chance.choice(words)
                answers.append(self.check(rule, length, [word for word in words if word != left_out]))
        self.assertGreater(answers.count(False), 50)

    def test_all_words(self):
        for length in (1, 2, 3, 4):
            self.assertIs(is_factor_list(MORSE, length, all_words(2, length)), True)
            self.assertIs(is_factor_list(MORSE, length, all_words(3, length)), False)

    def test_small_lists(self):
        for rule in (MORSE, FIBONACCI, ("ab", "bb"), ("aa", "ab"), ("aa", "bb")):
            for number in range(16):
                words = [word for at, word in enumerate(all_words(2, 2)) if number >> at & 1]
                self.check(rule, 2, words)

    def test_words_that_are_wrong(self):
        words = list(slow_factors(MORSE, 4))
        for wrong in NO_STRINGS + ["", "a", "abb", "abbab", "abbc", "ABBA", "ab b", "abbz"]:
            with self.subTest(wrong=wrong):
                self.assertIs(is_factor_list(MORSE, 4, words + [wrong]), False)
                self.assertIs(is_factor_list(MORSE, 4, [wrong] + words), False)

    def test_any_value(self):
        words = list(slow_factors(MORSE, 4))
        values = NO_STRINGS + ["", "abba", tuple(words), [words], [tuple(words)], (words,), " ".join(words), []]
        for value in values + [dict.fromkeys(words), NESTED_LIST, NESTED_TUPLE]:
            with self.subTest(value=value):
                self.assertIs(is_factor_list(MORSE, 4, value), False)

    def test_wrong_lengths(self):
        for length in NO_INTEGERS + [0, -1, 17, 2 ** 70]:
            with self.subTest(length=length):
                self.assertRaises(InvalidNumber, is_factor_list, MORSE, length, [])
                self.assertRaises(InvalidNumber, is_factor_list, MORSE, length, None)

    def test_hardest(self):
        chance = random.Random(19)
        rules = [random_rule(chance, 4, 4) for _ in range(30)]
        rows = [(rule, list(slow_factors(rule, 16))) for rule in rules]
        with within_seconds(self, 30):
            for rule, words in rows * 10:
                self.assertIs(is_factor_list(rule, 16, words), True)


class Errors(unittest.TestCase):
    def test_no_rules(self):
        for value in NO_RULES:
            with self.subTest(value=value):
                self.assertRaises(InvalidRule, factors_of, value, 3)
                self.assertRaises(InvalidRule, is_factor, value, "a")
                self.assertRaises(InvalidRule, factor_place, value, "")
                self.assertRaises(InvalidRule, is_factor_list, value, 1, ["a"])
        for value in SOME_NO_RULES:
            self.assertRaises(InvalidRule, factors_of, value, -1)
            self.assertRaises(InvalidRule, is_factor, value, None)
            self.assertRaises(InvalidRule, factor_place, value, "A")
            self.assertRaises(InvalidRule, is_factor_list, value, None, None)

    def test_no_words(self):
        for rule in (MORSE, ("abc", "bca", "cab"), ("ab", "ca", "cd", "ac")):
            after = SMALL[len(rule)]
            for value in NO_WORDS + [after, "a" + after, "ab" * 100 + "a", "z"]:
                with self.subTest(value=value):
                    self.assertRaises(InvalidWord, is_factor, rule, value)
                    self.assertRaises(InvalidWord, factor_place, rule, value)

    def test_arguments_and_results(self):
        words = list(slow_factors(MORSE, 5))
        kept = list(words)
        first = factors_of(MORSE, 5)
        is_factor_list(MORSE, 5, words)
        self.assertEqual(words, kept)
        first.clear()
        self.assertEqual(factors_of(MORSE, 5), kept)
        self.assertIs(slow_is_factor(MORSE, "abba"), True)
