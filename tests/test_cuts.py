import random
import unittest

from surepatterns.cuts import cut_list, cuts_of, delay_of, is_cut_list, short_words, two_places
from surepatterns.errors import InvalidNumber, InvalidWord
from surepatterns.factors import factors_of
from surepatterns.wrongs import InvalidRule, NoDelay
from tests.helper import NESTED_LIST, NESTED_TUPLE, NO_INTEGERS, NO_STRINGS, NO_WORDS, SMALL, random_word, within_seconds
from tests.slow_rules import (
    BY_DELAY, BY_HAND, FIBONACCI, FOUR, LATE, MORSE, NO_DELAY, NO_RULES, ONCE, SOME_NO_RULES, letters_of_rule,
    random_rule, slow_cut_rows, slow_cuts, slow_delay, slow_factors, slow_image, slow_short_words, slow_start,
    slow_word,
)
from tests.test_factors import far_words, some_rules


class CutList(unittest.TestCase):
    def test_examples(self):
        self.assertEqual(cut_list(MORSE, 2), [("aa", 1), ("ab", 0), ("ab", 1), ("ba", 0), ("ba", 1), ("bb", 1)])
        self.assertEqual(cut_list(("aa", "bb"), 1), [("a", 0), ("a", 1)])
        self.assertEqual(cut_list(ONCE, 1), [("a", 0), ("b", 0), ("b", 1), ("c", 0), ("c", 1)])

    def test_all_lengths(self):
        for rule in some_rules(1, 36):
            for length in range(1, 17):
                self.assertEqual(cut_list(rule, length), list(slow_cut_rows(rule, length)), (rule, length))

    def test_wrong_lengths(self):
        for value in NO_INTEGERS + [0, -1, 17, 2 ** 70, -2 ** 70]:
            with self.subTest(value=value):
                self.assertRaises(InvalidNumber, cut_list, MORSE, value)

    def test_hardest(self):
        chance = random.Random(2)
        with within_seconds(self, 20):
            for _ in range(400):
                cut_list(random_rule(chance, 4, 4), 16)
                cut_list(random_rule(chance, 4, 2), 16)


class CutsOf(unittest.TestCase):
    def check(self, rule, word):
        self.assertEqual(cuts_of(rule, word), slow_cuts(rule, word), (rule, word))

    def test_examples(self):
        self.assertEqual(cuts_of(MORSE, "ab"), [0, 1])
        self.assertEqual(cuts_of(MORSE, "aa"), [1])
        self.assertEqual(cuts_of(MORSE, "aaa"), [])
        self.assertEqual(cuts_of(("aaaa", "bbbb"), "a" * 200), [0, 1, 2, 3])

    def test_the_empty_word(self):
        for rule in some_rules(3, 9):
            self.assertEqual(cuts_of(rule, ""), list(range(len(rule[0]))))

    def test_factors(self):
        chance = random.Random(4)
        for rule in some_rules(5, 18):
            for length in (1, 2, 3, 6, 11, 16):
                cuts = {}
                for word, cut in slow_cut_rows(rule, length):
                    cuts.setdefault(word, []).append(cut)
                for word in chance.sample(sorted(cuts), min(10, len(cuts))):
                    self.assertEqual(cuts_of(rule, word), cuts[word])

    def test_words(self):
        chance = random.Random(6)
        for rule in some_rules(7, 27):
            for length in (1, 2, 3, 4, 6, 10, 17):
                self.check(rule, random_word(chance, length, letters_of_rule(rule)))

    def test_long_words(self):
        chance = random.Random(8)
        for rule in some_rules(9, 36):
            for word in far_words(rule, chance):
                self.check(rule, word)

    def test_two_factors_put_together(self):
        chance = random.Random(10)
        answers = []
        for rule in some_rules(11, 36):
            for _ in range(4):
                parts = [slow_word(rule, chance.randrange(10 ** 9), chance.randint(1, 30)) for _ in range(2)]
                self.check(rule, parts[0] + parts[1])
                answers.append(cuts_of(rule, parts[0] + parts[1]))
        self.assertGreater(answers.count([]), 20)

    def test_the_remainder_of_a_place(self):
        chance = random.Random(12)
        for rule in some_rules(13, 27):
            place = chance.randrange(10 ** 30)
            for length in (1, 3, 12, 60):
                self.assertIn(place % len(rule[0]), cuts_of(rule, slow_word(rule, place, length)))

    def test_no_words(self):
        for rule in (MORSE, FOUR):
            for value in NO_WORDS + [SMALL[len(rule)], "a" * 200 + "b"]:
                with self.subTest(value=value):
                    self.assertRaises(InvalidWord, cuts_of, rule, value)


class IsCutList(unittest.TestCase):
    def check(self, rule, length, rows):
        """By the words of point 21, for lists of tuples of this form."""
        expected = (slow_start(rule, length), 0) in rows
        for word, _ in rows:
            text = slow_image(rule, word)
            for index in range(len(text) - length + 1):
                expected = expected and (text[index:index + length], index % len(rule[0])) in rows
        self.assertIs(is_cut_list(rule, length, rows), expected, (rule, length, rows))
        return expected

    def grown(self, rule, length, rows):
        rows = list(rows)
        for word, _ in rows:
            text = slow_image(rule, word)
            for index in range(len(text) - length + 1):
                row = (text[index:index + length], index % len(rule[0]))
                if row not in rows:
                    rows.append(row)
        return rows

    def test_closed_lists(self):
        chance = random.Random(14)
        for rule in some_rules(15, 18):
            for length in (1, 2, 3, 4, 6, 9, 13, 16):
                rows = list(slow_cut_rows(rule, length))
                chance.shuffle(rows)
                self.assertIs(is_cut_list(rule, length, rows), True, (rule, length))
                self.assertIs(is_cut_list(rule, length, rows + rows[:2]), True)
                for _ in range(3):
                    left_out = chance.choice(rows)
                    self.assertIs(is_cut_list(rule, length, [row for row in rows if row != left_out]), False)
                self.assertIs(is_cut_list(rule, length + 1 if length < 16 else 15, rows), False)

    def test_greater_lists(self):
        chance = random.Random(16)
        answers = []
        for rule in some_rules(17, 18):
            for length in (1, 2, 3, 5):
                rows = list(slow_cut_rows(rule, length))
                other = (random_word(chance, length, letters_of_rule(rule)), chance.randrange(len(rule[0])))
                answers.append(self.check(rule, length, rows + [other]))
                greater = self.grown(rule, length, rows + [other])
                self.assertIs(self.check(rule, length, greater), True)
                left_out = chance.choice(greater)
                answers.append(self.check(rule, length, [row for row in greater if row != left_out]))
        self.assertGreater(answers.count(False), 50)

    def test_a_word_with_one_more_cut(self):
        # No other tuple comes from it, so the list stays closed.
        rows = list(slow_cut_rows(MORSE, 4))
        self.assertIs(is_cut_list(MORSE, 4, rows + [("abba", 1)]), True)
        self.assertNotIn(("abba", 1), rows)
        self.assertIs(is_cut_list(MORSE, 4, [row for row in rows if row != ("abba", 0)] + [("abba", 1)]), False)

    def test_rows_that_are_wrong(self):
        rows = list(slow_cut_rows(MORSE, 2))
        wrongs = NO_STRINGS + [
            "ab", ("ab",), ("ab", 0, 0), ["ab", 0], ("ab", 2), ("ab", -1), ("ab", True), ("ab", False), ("ab", None),
            ("ab", "0"), ("a", 0), ("abb", 0), ("ac", 0), ("AB", 0), (0, "ab"), (None, 0), (["ab"], 0), ("ab", [0]),
            ("ab", (0,)), ((), 0), ("", 0), (NESTED_LIST, NESTED_LIST), ("ab", 2 ** 70),
        ]
        for wrong in wrongs:
            with self.subTest(wrong=wrong):
                self.assertIs(is_cut_list(MORSE, 2, rows + [wrong]), False)
                self.assertIs(is_cut_list(MORSE, 2, [wrong] + rows), False)

    def test_true_and_false_in_the_place_of_a_cut(self):
        rows = list(slow_cut_rows(MORSE, 2))
        for at, (word, cut) in enumerate(rows):
            self.assertIs(is_cut_list(MORSE, 2, rows[:at] + [(word, bool(cut))] + rows[at + 1:]), False)
            self.assertIs(is_cut_list(MORSE, 2, rows[:at] + [[word, cut]] + rows[at + 1:]), False)

    def test_any_value(self):
        rows = list(slow_cut_rows(MORSE, 3))
        for value in NO_STRINGS + [tuple(rows), [rows], (rows,), "", "abb", dict(rows), [], NESTED_LIST, NESTED_TUPLE]:
            with self.subTest(value=value):
                self.assertIs(is_cut_list(MORSE, 3, value), False)

    def test_wrong_lengths(self):
        for length in NO_INTEGERS + [0, -1, 17, 2 ** 70]:
            with self.subTest(length=length):
                self.assertRaises(InvalidNumber, is_cut_list, MORSE, length, [])
                self.assertRaises(InvalidNumber, is_cut_list, MORSE, length, None)

    def test_hardest(self):
        chance = random.Random(18)
        rules = [random_rule(chance, 4, 4) for _ in range(30)]
        rows = [(rule, list(slow_cut_rows(rule, 16))) for rule in rules]
        with within_seconds(self, 30):
            for rule, pairs in rows * 10:
                self.assertIs(is_cut_list(rule, 16, pairs), True)


class Delay(unittest.TestCase):
    def test_examples(self):
        self.assertEqual(delay_of(MORSE), 4)
        self.assertIsNone(delay_of(("aa", "ab")))
        self.assertEqual([delay_of(rule) for rule in BY_DELAY], list(range(1, 13)))
        self.assertEqual([delay_of(rule) for rule in NO_DELAY], [None] * len(NO_DELAY))
        self.assertEqual([delay_of(rule) for rule in BY_HAND], [4, 3, slow_delay(FOUR), 4, 9])

    def test_all_rules(self):
        chance = random.Random(19)
        delays = []
        for at in range(270):
            rule = random_rule(chance, 2 + at % 3, 2 + at // 3 % 3)
            delays.append(delay_of(rule))
            self.assertEqual(delays[-1], slow_delay(rule), rule)
        self.assertGreater(delays.count(None), 30)
        self.assertGreater(len([delay for delay in delays if delay is not None and delay >= 7]), 10)

    def test_longer_factors_have_one_cut_too(self):
        for rule in some_rules(20, 27):
            delay = delay_of(rule)
            for length in range(1, 17):
                has_one = len(cut_list(rule, length)) == len(factors_of(rule, length))
                if delay is not None or length <= 12:
                    self.assertIs(has_one, delay is not None and length >= delay)


class TwoPlaces(unittest.TestCase):
    def test_all_lengths(self):
        for rule in some_rules(21, 36):
            delay = slow_delay(rule)
            for length in range(1, 13):
                found = two_places(rule, length)
                if delay is not None and length >= delay:
                    self.assertIsNone(found, (rule, length))
                else:
                    word, place, other = found
                    self.assertEqual((len(word), type(found)), (length, tuple))
                    self.assertNotEqual(place % len(rule[0]), other % len(rule[0]))
                    self.assertGreaterEqual(min(place, other), 0)
                    self.assertEqual(slow_word(rule, place, length), word)
                    self.assertEqual(slow_word(rule, other, length), word)
                    self.assertEqual(two_places(rule, length), found)

    def test_large_places(self):
        word, place, other = two_places(LATE, 8)
        self.assertEqual(slow_word(LATE, place, 8), slow_word(LATE, other, 8))

    def test_wrong_lengths(self):
        for value in NO_INTEGERS + [0, -1, 13, 2 ** 70]:
            with self.subTest(value=value):
                self.assertRaises(InvalidNumber, two_places, MORSE, value)
                self.assertRaises(InvalidNumber, two_places, NO_DELAY[0], value)


class ShortWords(unittest.TestCase):
    def test_examples(self):
        expected = ["a", "aa", "aab", "ab", "aba", "abb", "b", "ba", "baa", "bab", "bb", "bba"]
        self.assertEqual(short_words(MORSE), expected)
        self.assertEqual(short_words(FIBONACCI), ["a", "aa", "ab", "b", "ba"])
        # The delay is 1, so the length tells the reach.
        self.assertEqual(max([len(word) for word in short_words(BY_DELAY[0])]), 2)

    def test_all_rules(self):
        for rule in some_rules(22, 36):
            if slow_delay(rule) is None:
                self.assertRaises(NoDelay, short_words, rule)
            else:
                words = short_words(rule)
                self.assertEqual(words, list(slow_short_words(rule)), rule)
                words.clear()
                self.assertEqual(short_words(rule), list(slow_short_words(rule)))


class Errors(unittest.TestCase):
    def test_no_rules(self):
        for value in NO_RULES:
            with self.subTest(value=value):
                self.assertRaises(InvalidRule, cuts_of, value, "a")
                self.assertRaises(InvalidRule, cut_list, value, 1)
                self.assertRaises(InvalidRule, is_cut_list, value, 1, [])
                self.assertRaises(InvalidRule, delay_of, value)
                self.assertRaises(InvalidRule, two_places, value, 1)
                self.assertRaises(InvalidRule, short_words, value)
        for value in SOME_NO_RULES:
            self.assertRaises(InvalidRule, cuts_of, value, None)
            self.assertRaises(InvalidRule, cut_list, value, 0)
            self.assertRaises(InvalidRule, is_cut_list, value, None, None)
            self.assertRaises(InvalidRule, two_places, value, "1")

    def test_no_delay(self):
        for rule in NO_DELAY:
            self.assertRaises(NoDelay, short_words, rule)
            self.assertEqual(cuts_of(rule, "a"), slow_cuts(rule, "a"))
            self.assertEqual(len({word for word, _ in cut_list(rule, 12)}), len(slow_factors(rule, 12)))

    def test_arguments_and_results(self):
        rows = list(slow_cut_rows(MORSE, 5))
        kept = list(rows)
        is_cut_list(MORSE, 5, rows)
        first = cut_list(MORSE, 5)
        cuts = cuts_of(MORSE, "ab")
        self.assertEqual(rows, kept)
        first.reverse()
        cuts.append(7)
        self.assertEqual(cut_list(MORSE, 5), kept)
        self.assertEqual(cuts_of(MORSE, "ab"), [0, 1])
