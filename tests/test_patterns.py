import random
import unittest

from surepatterns.errors import InvalidAssignment, InvalidPattern, TooLong
from surepatterns.patterns import is_pattern, is_word, letters_of, normal_form, value_of
from tests.helper import (
    CAPITALS, NO_PATTERNS, NO_STRINGS, NO_WORDS, SMALL, normal_patterns, put_in, random_pattern, random_word, renamed,
)

ASCII = [chr(code) for code in range(128)]


class Kinds(unittest.TestCase):
    def test_example(self):
        self.assertIs(is_pattern("XyX"), False)

    def test_patterns_of_every_length(self):
        chance = random.Random(1)
        for length in range(1, 21):
            for most in range(1, 8):
                self.assertIs(is_pattern(random_pattern(chance, length, most)), True)
        for letter in CAPITALS:
            self.assertIs(is_pattern(letter), True)
            self.assertIs(is_pattern(letter * 20), True)
        self.assertIs(is_pattern("ABCDEFG" + "GFEDCBA" + "ABCDEF"), True)

    def test_no_patterns(self):
        for value in NO_PATTERNS:
            with self.subTest(value=value):
                self.assertIs(is_pattern(value), False)

    def test_too_many_letters(self):
        chance = random.Random(2)
        for length in range(8, 21):
            row = chance.sample(CAPITALS, 8) + [chance.choice(CAPITALS) for _ in range(length - 8)]
            chance.shuffle(row)
            self.assertIs(is_pattern("".join(row)), False)
        self.assertIs(is_pattern("ABCDEFG"), True)
        self.assertIs(is_pattern("A" * 21), False)

    def test_one_character_changed(self):
        for pattern in ("A", "XYX", "ABCDEF" * 3):
            for place in range(len(pattern)):
                for sign in ASCII:
                    changed = pattern[:place] + sign + pattern[place + 1:]
                    self.assertIs(is_pattern(changed), sign in CAPITALS, changed)

    def test_words(self):
        chance = random.Random(3)
        for length in range(201):
            self.assertIs(is_word(random_word(chance, length, SMALL)), True)
        self.assertIs(is_word(""), True)
        self.assertIs(is_word(SMALL), True)

    def test_no_words(self):
        for value in NO_WORDS:
            with self.subTest(value=value):
                self.assertIs(is_word(value), False)

    def test_word_with_one_character_changed(self):
        for word in ("a", "banana", "z" * 200):
            for place in (0, len(word) // 2, len(word) - 1):
                for sign in ASCII:
                    changed = word[:place] + sign + word[place + 1:]
                    self.assertIs(is_word(changed), sign in SMALL, changed)


class Letters(unittest.TestCase):
    def test_examples(self):
        self.assertEqual(letters_of("XYXZ"), "XYZ")
        self.assertEqual(normal_form("XYX"), "ABA")

    def test_order_of_first_occurrences(self):
        self.assertEqual(letters_of("ZAZBYAZ"), "ZABY")
        chance = random.Random(4)
        for _ in range(300):
            pattern = random_pattern(chance, chance.randint(1, 20), chance.randint(1, 7))
            letters = letters_of(pattern)
            self.assertEqual(sorted(letters), sorted(set(pattern)))
            places = [pattern.index(letter) for letter in letters]
            self.assertEqual(places, sorted(places))

    def test_normal_form(self):
        self.assertEqual(normal_form("ZAZBYAZ"), "ABACDBA")
        for length in range(1, 7):
            for pattern in normal_patterns(length, 4):
                self.assertEqual(normal_form(pattern), pattern)

    def test_normal_forms_of_renamed_patterns(self):
        chance = random.Random(5)
        for _ in range(300):
            pattern = random_pattern(chance, chance.randint(1, 20), chance.randint(1, 7))
            form = normal_form(pattern)
            self.assertEqual(normal_form(form), form)
            self.assertEqual(letters_of(form), CAPITALS[:len(set(pattern))])
            self.assertEqual(normal_form(renamed(pattern, chance)[0]), form)

    def test_identified_letters_give_another_normal_form(self):
        chance = random.Random(6)
        for _ in range(300):
            pattern = random_pattern(chance, chance.randint(2, 20), chance.randint(2, 7))
            if len(set(pattern)) > 1:
                one, other = chance.sample(sorted(set(pattern)), 2)
                self.assertNotEqual(normal_form(pattern.replace(one, other)), normal_form(pattern))

    def test_no_patterns(self):
        for value in NO_PATTERNS:
            with self.subTest(value=value):
                self.assertRaises(InvalidPattern, letters_of, value)
                self.assertRaises(InvalidPattern, normal_form, value)


class Values(unittest.TestCase):
    def test_example(self):
        self.assertEqual(value_of("XYX", ("a", "bc")), "abca")

    def test_words_come_in_the_order_of_first_occurrences(self):
        self.assertEqual(value_of("ZAZ", ("x", "y")), "xyx")
        self.assertEqual(value_of("BACAB", ("b", "aa", "c")), "baacaab")

    def test_values(self):
        chance = random.Random(7)
        for _ in range(500):
            pattern = random_pattern(chance, chance.randint(1, 20), chance.randint(1, 7))
            words = [random_word(chance, chance.randint(1, 60), SMALL) for _ in letters_of(pattern)]
            value = put_in(pattern, words)
            if len(value) > 200:
                self.assertRaises(TooLong, value_of, pattern, tuple(words))
            else:
                self.assertEqual(value_of(pattern, tuple(words)), value)

    def test_limit(self):
        self.assertEqual(value_of("A", ("a" * 200,)), "a" * 200)
        self.assertEqual(value_of("AAB", ("a" * 60, "b" * 80)), "a" * 120 + "b" * 80)
        self.assertRaises(TooLong, value_of, "AAB", ("a" * 60, "b" * 81))
        self.assertRaises(TooLong, value_of, "AB", ("a" * 200, "b"))
        self.assertRaises(TooLong, value_of, "A" * 20, ("a" * 200,))

    def test_no_assignments(self):
        values = [
            ("a",), ("a", "b", "c"), (), ("a", ""), ("", "b"), ("a", "B"), ("a", "b "), ["a", "b"], "ab", ("ab"),
            ("a", 1), ("a", True), ("a", None), ("a", ("b",)), ("a", ["b"]), ("a", "b" * 201), ("a", "\n"),
            {"A": "a", "B": "b"},
        ]
        for value in values + NO_STRINGS + ["", "a"]:
            with self.subTest(value=value):
                self.assertRaises(InvalidAssignment, value_of, "ABA", value)

    def test_order_of_the_errors(self):
        for value in NO_PATTERNS:
            self.assertRaises(InvalidPattern, value_of, value, ("a",))
            self.assertRaises(InvalidPattern, value_of, value, None)
        self.assertRaises(InvalidAssignment, value_of, "AB", ("a" * 200, "b", "c"))
        self.assertRaises(InvalidAssignment, value_of, "AAB", ("a" * 200, ""))

    def test_replacing_by_patterns_first(self):
        chance = random.Random(8)
        done = 0
        while done < 200:
            pattern = random_pattern(chance, chance.randint(1, 6), 3)
            parts = [random_pattern(chance, chance.randint(1, 4), 2) for _ in letters_of(pattern)]
            whole = put_in(pattern, parts)
            if not is_pattern(whole):
                continue
            table = {letter: random_word(chance, chance.randint(1, 8), "abc") for letter in letters_of(whole)}
            values = [value_of(part, tuple([table[letter] for letter in letters_of(part)])) for part in parts]
            direct = value_of(whole, tuple([table[letter] for letter in letters_of(whole)]))
            self.assertEqual(value_of(pattern, tuple(values)), direct)
            done += 1
