import random
import unittest
from itertools import product

from surepatterns import wrongs
from surepatterns.errors import InvalidNumber, InvalidWord, PatternError
from surepatterns.rules import image_of, is_rule, rule_letter, rule_start
from surepatterns.wrongs import InvalidRule
from tests.helper import NO_INTEGERS, NO_WORDS, SMALL, all_words, random_word, within_seconds
from tests.slow_rules import MORSE, NO_RULES, random_rule, slow_image, slow_letter, slow_start

LAST = 10 ** 60


class IsRule(unittest.TestCase):
    def test_examples(self):
        self.assertIs(is_rule(("ab", "ab")), False)
        self.assertIs(is_rule(("ab", "ba")), True)
        self.assertIs(is_rule(("ab", "ca", "cd", "ac")), True)
        self.assertIs(is_rule(("aa", "bb")), True)
        self.assertIs(is_rule(("aaaa", "bbbb", "cccc", "dddd")), True)
        self.assertIs(is_rule(("abc", "bca", "cab")), True)

    def test_all_pairs(self):
        words = [word for size in range(4) for word in all_words(3, size)]
        for first in words:
            for second in words:
                expected = (
                    first != second and len(first) == len(second) >= 2 and first[0] == "a"
                    and "c" not in first + second
                )
                self.assertIs(is_rule((first, second)), expected, (first, second))

    def test_all_small_triples(self):
        words = all_words(4, 2)
        for rows in product(words, repeat=3):
            expected = len(set(rows)) == 3 and rows[0][0] == "a" and "d" not in "".join(rows)
            self.assertIs(is_rule(rows), expected, rows)

    def test_rules_of_every_size_and_values_near_them(self):
        chance = random.Random(1)
        for many, size in product((2, 3, 4), (2, 3, 4)):
            for _ in range(20):
                rule = random_rule(chance, many, size)
                self.assertIs(is_rule(rule), True, rule)
                self.check_near(rule, many, chance)

    def check_near(self, rule, many, chance):
        at = chance.randrange(many)
        after = SMALL[many]
        self.assertIs(is_rule(list(rule)), False)
        self.assertIs(is_rule(rule[:1]), False)
        self.assertIs(is_rule(rule + (rule[at],)), False)
        self.assertIs(is_rule(rule[:at] + (rule[at] + "a",) + rule[at + 1:]), False)
        self.assertIs(is_rule(rule[:at] + (rule[at][:-1],) + rule[at + 1:]), False)
        self.assertIs(is_rule(rule[:at] + (rule[at][:-1] + after,) + rule[at + 1:]), False)
        self.assertIs(is_rule(rule[:at] + (rule[at - 1],) + rule[at + 1:]), False)
        self.assertIs(is_rule(rule[:at] + (list(rule[at]),) + rule[at + 1:]), False)
        self.assertIs(is_rule(rule[:at] + (rule[at].upper(),) + rule[at + 1:]), False)
        self.assertIs(is_rule(("b" + rule[0][1:],) + rule[1:]), False)
        self.assertIs(is_rule(tuple([word * 5 for word in rule])), False)

    def test_any_value(self):
        for value in NO_RULES:
            with self.subTest(value=value):
                self.assertIs(is_rule(value), False)

    def test_five_words(self):
        words = ("aa", "ab", "ac", "ad", "ba")
        self.assertIs(is_rule(words), False)
        self.assertIs(is_rule(words[:4]), True)
        self.assertIs(is_rule(words[:3]), True)
        self.assertIs(is_rule(words[:2]), True)
        self.assertIs(is_rule(words[:1]), False)


class Image(unittest.TestCase):
    def test_examples(self):
        self.assertEqual(image_of(MORSE, "aab"), "ababba")
        self.assertEqual(image_of(MORSE, ""), "")
        self.assertEqual(image_of(("abc", "bca", "cab"), "cb"), "cabbca")

    def test_words(self):
        chance = random.Random(2)
        for _ in range(300):
            rule = random_rule(chance)
            word = random_word(chance, chance.choice([0, 1, 2, 3, 10, 199, 200]), SMALL[:len(rule)])
            self.assertEqual(image_of(rule, word), slow_image(rule, word))

    def test_long_words(self):
        self.assertEqual(image_of(("abcd", "bcda", "cdab", "dabc"), "d" * 200), "dabc" * 200)
        self.assertEqual(image_of(("aaaa", "bbbb"), "ab" * 100), "aaaabbbb" * 100)

    def test_wrong_words(self):
        for rule in (MORSE, ("abc", "bca", "cab"), ("ab", "ca", "cd", "ac")):
            for value in NO_WORDS + [SMALL[len(rule)], "a" + SMALL[len(rule)], "z", "a" * 200 + "b"]:
                with self.subTest(value=value):
                    self.assertRaises(InvalidWord, image_of, rule, value)

    def test_the_start_of_a_rule_word_is_its_own_image(self):
        chance = random.Random(3)
        for _ in range(60):
            rule = random_rule(chance)
            size = len(rule[0])
            for length in (1, 7, 50):
                self.assertEqual(image_of(rule, rule_start(rule, length)), rule_start(rule, size * length))


class Start(unittest.TestCase):
    def test_examples(self):
        self.assertEqual(rule_start(MORSE, 8), "abbabaab")
        self.assertEqual(rule_start(MORSE, 0), "")
        self.assertEqual(rule_start(MORSE, 1), "a")
        self.assertEqual(rule_start(("aa", "bb"), 200), "a" * 200)
        self.assertEqual(rule_start(("ab", "ca", "cd", "ac"), 8), "abcacdab")

    def test_all_lengths(self):
        chance = random.Random(4)
        for _ in range(60):
            rule = random_rule(chance)
            whole = slow_start(rule, 200)
            self.assertEqual([rule_start(rule, length) for length in range(201)], [whole[:n] for n in range(201)])

    def test_wrong_lengths(self):
        for value in NO_INTEGERS + [-1, 201, 202, 2 ** 70, -2 ** 70]:
            with self.subTest(value=value):
                self.assertRaises(InvalidNumber, rule_start, MORSE, value)


class Letter(unittest.TestCase):
    def test_examples(self):
        self.assertEqual(rule_letter(MORSE, 2 ** 60), "b")
        self.assertEqual([rule_letter(MORSE, place) for place in range(4)], list("abba"))

    def test_first_places(self):
        chance = random.Random(5)
        for _ in range(40):
            rule = random_rule(chance)
            start = slow_start(rule, 600)
            self.assertEqual("".join([rule_letter(rule, place) for place in range(600)]), start)

    def test_far_places(self):
        chance = random.Random(6)
        for _ in range(400):
            rule = random_rule(chance)
            place = chance.choice([chance.randrange(LAST), LAST - chance.randrange(100), chance.randrange(10 ** 9)])
            self.assertEqual(rule_letter(rule, place), slow_letter(rule, place))
            size = len(rule[0])
            if size * place + size <= LAST:
                letters = "".join([rule_letter(rule, size * place + at) for at in range(size)])
                self.assertEqual(letters, image_of(rule, rule_letter(rule, place)))

    def test_rules_with_a_known_letter_at_each_place(self):
        chance = random.Random(7)
        for _ in range(100):
            place = chance.randrange(LAST + 1)
            self.assertEqual(rule_letter(MORSE, place), "ab"[bin(place).count("1") % 2])
            exponent = ((place + 1) & -(place + 1)).bit_length() - 1
            self.assertEqual(rule_letter(("ab", "aa"), place), "ab"[exponent % 2])
            self.assertEqual(rule_letter(("ab", "bb"), place), "b" if place else "a")
            digits = sum([int(digit) for digit in self.digits(place, 3)])
            self.assertEqual(rule_letter(("abc", "bca", "cab"), place), "abc"[digits % 3])

    def digits(self, place, base):
        return [] if place == 0 else self.digits(place // base, base) + [place % base]

    def test_last_place(self):
        self.assertEqual(rule_letter(MORSE, LAST), slow_letter(MORSE, LAST))
        self.assertEqual(rule_letter(("aaab", "bbba"), LAST - 1), slow_letter(("aaab", "bbba"), LAST - 1))
        with within_seconds(self, 10):
            for back in range(500):
                rule_letter(MORSE, LAST - back)

    def test_wrong_places(self):
        for value in NO_INTEGERS + [-1, -2, LAST + 1, 2 ** 300, -LAST]:
            with self.subTest(value=value):
                self.assertRaises(InvalidNumber, rule_letter, MORSE, value)


class Errors(unittest.TestCase):
    def test_no_rules(self):
        for value in NO_RULES:
            with self.subTest(value=value):
                for word in ("a", "", None, "z"):
                    self.assertRaises(InvalidRule, image_of, value, word)
                for number in (0, 5, -1, None, LAST + 1):
                    self.assertRaises(InvalidRule, rule_start, value, number)
                    self.assertRaises(InvalidRule, rule_letter, value, number)

    def test_classes(self):
        for name in ("InvalidRule", "InvalidShape", "InvalidWay", "NoDelay", "NotARecord"):
            with self.subTest(name=name):
                each = getattr(wrongs, name)
                self.assertEqual(each.__bases__, (PatternError,))
                self.assertEqual(each.__name__, name)
                self.assertEqual(str(each("some words")), "some words")
                with self.assertRaises(ValueError):
                    raise each("some words")
