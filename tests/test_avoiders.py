import random
import unittest
from itertools import permutations, product

from surepatterns.avoiders import does_avoid, first_avoider, rules_of
from surepatterns.chains import is_sure
from surepatterns.errors import InvalidNumber, InvalidPattern, TooMany
from surepatterns.far import far_word
from surepatterns.occurrences import meets
from surepatterns.order import contains, sure_patterns
from surepatterns.rules import is_rule
from surepatterns.ways import occurs
from surepatterns.wrongs import InvalidRule, NoDelay
from tests.helper import NESTED_LIST, NO_INTEGERS, NO_PATTERNS, NO_STRINGS, random_pattern, renamed, within_seconds
from tests.slow_rules import (
    FIBONACCI, FOUR, MORSE, NO_DELAY, NO_RULES, SOME_NO_RULES, slow_delay, slow_occurs_in, slow_start, slow_word,
)
from tests.test_shapes import some_delayed_rules

# For some of these there are too many shapes.
FIXED = ["AA", "AAA", "AAAA", "ABAB", "AABB", "BCABBBA", "ABAACCC", "BCABAC"]
SIZES = [(2, 2), (2, 3), (2, 4), (3, 2)]


def slow_rules_of(letters, length):
    words = ["".join(row) for row in product("abc"[:letters], repeat=length)]
    return sorted([rule for rule in permutations(words, letters) if rule[0][0] == "a"])


def avoidance(rule, pattern):
    try:
        return does_avoid(rule, pattern)
    except TooMany:
        return "TooMany"


def slow_first(pattern, letters, length):
    for rule in slow_rules_of(letters, length):
        if slow_delay(rule) is not None:
            found = avoidance(rule, pattern)
            if found:
                return rule if found is True else found
    return None


def some_pattern(chance):
    return random_pattern(chance, chance.randint(1, 8), chance.randint(1, 3))


class RulesOf(unittest.TestCase):
    def test_examples(self):
        expected = [("aa", "ab"), ("aa", "ba"), ("aa", "bb"), ("ab", "aa"), ("ab", "ba"), ("ab", "bb")]
        self.assertEqual(rules_of(2, 2), expected)

    def test_all_lists(self):
        for letters, length in SIZES:
            found = rules_of(letters, length)
            self.assertEqual(found, slow_rules_of(letters, length))
            self.assertTrue(all([is_rule(rule) for rule in found]))
            found.clear()
            self.assertEqual(rules_of(letters, length), slow_rules_of(letters, length))
        self.assertEqual([len(rules_of(*size)) for size in SIZES], [6, 28, 120, 168])

    def test_wrong_numbers(self):
        wrong = NO_INTEGERS + NO_STRINGS + [0, 1, 4, 5, -2, 2 ** 70, "2", "3"]
        for value in wrong:
            with self.subTest(value=value):
                for good in (2, 3):
                    self.assertRaises(InvalidNumber, rules_of, value, good)
                for length in ((2, 3, 4) if value != 4 or isinstance(value, bool) else ()):
                    self.assertRaises(InvalidNumber, rules_of, value, length)
                if value != 4:
                    self.assertRaises(InvalidNumber, rules_of, 2, value)
                self.assertRaises(InvalidNumber, rules_of, 3, value)
        for letters, length in product(range(-1, 7), range(-1, 7)):
            if (letters, length) not in SIZES:
                self.assertRaises(InvalidNumber, rules_of, letters, length)
                self.assertRaises(InvalidNumber, first_avoider, "A", letters, length)


class DoesAvoid(unittest.TestCase):
    def test_examples(self):
        self.assertIs(does_avoid(MORSE, "AAA"), True)
        self.assertIs(does_avoid(MORSE, "AA"), False)
        self.assertIs(does_avoid(MORSE, "ABABA"), True)
        self.assertIs(does_avoid(FOUR, "XX"), True)
        self.assertIs(does_avoid(FIBONACCI, "AAAA"), True)
        self.assertIs(does_avoid(FIBONACCI, "AAA"), False)

    def test_occurs_says_the_same(self):
        chance = random.Random(1)
        answers = []
        for rule in some_delayed_rules(2, 63):
            for _ in range(4):
                pattern = some_pattern(chance)
                answers.append(avoidance(rule, pattern))
                if answers[-1] == "TooMany":
                    self.assertRaises(TooMany, occurs, rule, pattern)
                else:
                    self.assertIs(occurs(rule, pattern), not answers[-1])
                if answers[-1] is True:
                    self.check_avoids(rule, pattern, chance)
        self.assertGreater(answers.count(True), 40)
        self.assertGreater(answers.count(False), 40)

    def check_avoids(self, rule, pattern, chance):
        self.assertIs(is_sure(pattern), False)
        self.assertIs(slow_occurs_in(pattern, slow_start(rule, 60)), False)
        for _ in range(3):
            word = far_word(rule, chance.randrange(10 ** 60), 24)
            self.assertIs(meets(pattern, word), False)

    def test_sure_patterns_are_not_avoided(self):
        rules = some_delayed_rules(3, 18)
        for length in range(1, 6):
            for pattern in sure_patterns(length):
                if len(set(pattern)) <= 3:
                    for rule in rules:
                        self.assertIn(avoidance(rule, pattern), (False, "TooMany"), (rule, pattern))

    def test_patterns_that_contain_an_avoided_one(self):
        chance = random.Random(4)
        found = 0
        for rule in some_delayed_rules(5, 27):
            for _ in range(6):
                pattern, other = some_pattern(chance), some_pattern(chance)
                if avoidance(rule, pattern) is True and contains(other, pattern):
                    self.assertIn(avoidance(rule, other), (True, "TooMany"))
                    found += 1
        self.assertGreater(found, 5)

    def test_renamed_letters(self):
        chance = random.Random(6)
        for rule in some_delayed_rules(7, 27):
            pattern = some_pattern(chance)
            self.assertEqual(avoidance(rule, renamed(pattern, chance)[0]), avoidance(rule, pattern))

    def test_turned_patterns_of_morse(self):
        # The factors of this rule, read backwards, are factors.
        for pattern in ("AAB", "AABB", "ABBA", "ABAAB", "AABAB", "ABABB", "AAABB"):
            self.assertEqual(avoidance(MORSE, pattern), avoidance(MORSE, pattern[::-1]))


class FirstAvoider(unittest.TestCase):
    def test_examples(self):
        self.assertEqual(first_avoider("AAA", 2, 2), ("ab", "ba"))
        self.assertIsNone(first_avoider("A", 2, 2))
        self.assertIsNone(first_avoider("AA", 2, 4))
        self.assertIsNone(first_avoider("ABA", 3, 2))

    def test_patterns(self):
        chance = random.Random(8)
        answers = []
        for letters, length in SIZES:
            for pattern in FIXED + [some_pattern(chance) for _ in range(12)]:
                expected = slow_first(pattern, letters, length)
                answers.append(expected)
                if expected == "TooMany":
                    self.assertRaises(TooMany, first_avoider, pattern, letters, length)
                else:
                    self.assertEqual(first_avoider(pattern, letters, length), expected)
        for kind in (None, "TooMany"):
            self.assertIn(kind, answers)
        self.assertGreater(len({answer for answer in answers if isinstance(answer, tuple)}), 3)

    def test_hardest(self):
        with within_seconds(self, 60):
            for pattern in ("ABACABA", "ABCACBAA", "AABB", "AABBCABC", "ABCABCAB", "AABCBBAC", "ABACAABC"):
                try:
                    first_avoider(pattern, 2, 4)
                    first_avoider(pattern, 3, 2)
                except TooMany:
                    pass


class Errors(unittest.TestCase):
    def test_no_rules(self):
        for value in NO_RULES:
            with self.subTest(value=value):
                self.assertRaises(InvalidRule, does_avoid, value, "A")
        for value in SOME_NO_RULES:
            self.assertRaises(InvalidRule, does_avoid, value, None)

    def test_no_delay(self):
        for rule in NO_DELAY:
            self.assertRaises(NoDelay, does_avoid, rule, "A")
            self.assertRaises(NoDelay, does_avoid, rule, None)
            self.assertRaises(NoDelay, does_avoid, rule, "")

    def test_no_patterns(self):
        for value in NO_PATTERNS:
            with self.subTest(value=value):
                self.assertRaises(InvalidPattern, does_avoid, MORSE, value)
                self.assertRaises(InvalidPattern, first_avoider, value, 2, 2)
                self.assertRaises(InvalidPattern, first_avoider, value, 0, None)

    def test_wrong_numbers(self):
        for value in NO_INTEGERS + [0, 1, 5, -2, NESTED_LIST]:
            with self.subTest(value=value):
                self.assertRaises(InvalidNumber, first_avoider, "AA", value, 2)
                self.assertRaises(InvalidNumber, first_avoider, "AA", 2, value)
                self.assertRaises(InvalidNumber, first_avoider, "AA", value, value)

    def test_factors_of_avoiding_rules(self):
        chance = random.Random(9)
        for rule, pattern in ((MORSE, "AAA"), (MORSE, "ABABA"), (FOUR, "AA"), (FIBONACCI, "AAAA")):
            for _ in range(10):
                word = slow_word(rule, chance.randrange(10 ** 20), 24)
                self.assertIs(meets(pattern, word), False)
