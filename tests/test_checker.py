import random
import unittest
from copy import deepcopy

from surepatterns.chains import shortest_chain
from surepatterns.checker import check
from surepatterns.closed import closed_family, reachable_sets
from surepatterns.embedding import occurrence_in_standard
from surepatterns.errors import InvalidPattern, InvalidWord, NotACertificate, TooLong
from tests.helper import (
    NESTED_LIST, NESTED_TUPLE, NO_INTEGERS, NO_PATTERNS, NO_STRINGS, NO_WORDS, first_letters, grown_pattern,
    letter_sets, put_in, random_chain, random_pattern, random_word, regex_meets, samples, slow_is_chain, slow_is_family,
    slow_standard_word, square_free, within_seconds,
)

RIGHT = ("right",)
STANDARD = slow_standard_word(10)
NO_ASSIGNMENTS = NO_STRINGS + ["", "ab", ("a", ""), ("a", "B"), ("a", "b", "c"), ["a", "b"], ("a", 1), ("a", None),
                               ("a", ["b"]), ("a", ("b",)), (True, "a"), ("a", "b" * 201), {"a": "b"}, (("a", "b"),)]


def judged(holds):
    return RIGHT if holds else ("wrong", 0)


def stands(pattern, words, text, start):
    """The answer of a right first condition."""
    value = put_in(pattern, words)
    return RIGHT if text[start:start + len(value)] == value else ("wrong", 1)


class Meets(unittest.TestCase):
    def test_examples(self):
        self.assertEqual(check(("meets", "ABA", "xabacabay", 1, ("ab", "a"))), ("wrong", 1))
        self.assertEqual(check(("meets", "ABA", "xabacabay", 1, ("a", "bab"))), ("wrong", 1))
        self.assertEqual(check(("meets", "ABA", "xabacabay", 1, ("a", "bac"))), RIGHT)
        self.assertEqual(check(("meets", "ABA", "xabacabay", 1, ("aba", "c"))), RIGHT)
        self.assertEqual(check(("meets", "ABA", "xabacabay", 5, ("a", "b"))), RIGHT)
        self.assertEqual(check(("meets", "ABA", "aa", 3, ("a", "b"))), ("wrong", 0))
        self.assertEqual(check(("meets", "ABA", "aa", 2, ("a", "b"))), ("wrong", 1))

    def test_planted(self):
        chance = random.Random(1)
        sizes = []
        for _ in range(400):
            pattern = random_pattern(chance, chance.randint(1, 20), chance.randint(1, 7))
            words = tuple([random_word(chance, chance.randint(1, 9), "abz") for _ in first_letters(pattern)])
            value = put_in(pattern, words)
            if len(value) > 200:
                continue
            before = random_word(chance, chance.randint(0, 200 - len(value)), "abz")
            word = before + value + random_word(chance, chance.randint(0, 200 - len(value) - len(before)), "abz")
            sizes.append(len(word))
            self.check_all(pattern, word, len(before), words, chance)
        self.assertGreater(max(sizes), 190)

    def check_all(self, pattern, word, start, words, chance):
        self.assertEqual(check(("meets", pattern, word, start, words)), RIGHT)
        self.assertEqual(check(("meets", pattern, "", 0, words)), ("wrong", 1))
        self.assertEqual(check(("meets", pattern, "", 1, words)), ("wrong", 0))
        for other in (start + 1, start - 1, 0, len(word), chance.randint(0, len(word)), len(word) + 1, -start - 1):
            expected = stands(pattern, words, word, other) if 0 <= other <= len(word) else ("wrong", 0)
            self.assertEqual(check(("meets", pattern, word, other, words)), expected)
        for at in range(len(words)):
            changed = words[:at] + (random_word(chance, chance.randint(1, 9), "abz"),) + words[at + 1:]
            self.assertEqual(check(("meets", pattern, word, start, changed)), stands(pattern, changed, word, start))
            shorter = words[:at] + words[at + 1:]
            self.assertEqual(check(("meets", pattern, word, start, shorter)), ("wrong", 0))
            self.assertEqual(check(("meets", pattern, word, start, words + (words[at],))), ("wrong", 0))
        self.assertEqual(check(("meets", pattern, word, start, list(words))), ("wrong", 0))

    def test_any_start(self):
        for start in NO_INTEGERS + [-1, 4, 5, 2 ** 70, -2 ** 70]:
            with self.subTest(start=start):
                self.assertEqual(check(("meets", "AB", "abc", start, ("a", "b"))), ("wrong", 0))
        for start in range(4):
            expected = RIGHT if start == 0 else ("wrong", 1)
            self.assertEqual(check(("meets", "AB", "abc", start, ("a", "b"))), expected)

    def test_any_assignment(self):
        for value in NO_ASSIGNMENTS:
            with self.subTest(value=value):
                self.assertEqual(check(("meets", "XYX", "aba", 0, value)), ("wrong", 0))

    def test_long_values(self):
        word = "ab" * 100
        self.assertEqual(check(("meets", "A", word, 0, (word,))), RIGHT)
        self.assertEqual(check(("meets", "A", word, 1, (word,))), ("wrong", 1))
        self.assertEqual(check(("meets", "AB", word, 0, (word, "a"))), ("wrong", 1))
        self.assertEqual(check(("meets", "A" * 20, word, 0, (word,))), ("wrong", 1))
        self.assertEqual(check(("meets", "A" * 20, "a" * 200, 0, ("a" * 10,))), RIGHT)

    def test_a_value_must_not_hang_over(self):
        self.assertEqual(check(("meets", "AB", "aba", 2, ("a", "b"))), ("wrong", 1))
        self.assertEqual(check(("meets", "A", "aba", 3, ("a",))), ("wrong", 1))


class Standard(unittest.TestCase):
    def test_example(self):
        self.assertEqual(check(("standard", "ABA", 3, 2, ("a", "c"))), RIGHT)

    def test_occurrences(self):
        chance = random.Random(2)
        for _ in range(80):
            pattern = grown_pattern(chance, 20)
            start, end, words = occurrence_in_standard(pattern)
            index = len(shortest_chain(pattern))
            for number in range(11):
                expected = stands(pattern, words, slow_standard_word(number), start)
                self.assertEqual(check(("standard", pattern, number, start, words)), expected)
                self.assertEqual(expected == RIGHT, number >= index)
            for other in (start + 1, start - 1, start + 2 ** index, end, 0, 1022, 1023, 1024, 10 ** 60, -1):
                expected = stands(pattern, words, STANDARD, other) if other >= 0 else ("wrong", 0)
                self.assertEqual(check(("standard", pattern, 10, other, words)), expected)

    def test_parts_of_standard_words(self):
        chance = random.Random(3)
        for _ in range(200):
            many = chance.randint(1, 7)
            place = start = chance.randint(0, 900)
            words = []
            for _ in range(many):
                size = chance.randint(1, 30)
                words.append(STANDARD[place:place + size])
                place += size
            if "" not in words:
                words = tuple(words)
                pattern = "ZYXWVUT"[:many]
                for number in (10, 9, chance.randint(0, 8)):
                    expected = stands(pattern, words, slow_standard_word(number), start)
                    self.assertEqual(check(("standard", pattern, number, start, words)), expected)

    def test_repeated_letters(self):
        for number in range(11):
            text = slow_standard_word(number)
            for pattern, words in (("ABA", ("a", "b")), ("ABA", ("aba", "c")), ("AA", ("a",)), ("ABAB", ("a", "b"))):
                for start in range(20):
                    expected = stands(pattern, words, text, start)
                    self.assertEqual(check(("standard", pattern, number, start, words)), expected)

    def test_values_of_more_than_200_letters(self):
        parts = tuple([STANDARD[start:start + 200] for start in (0, 200, 400, 600, 800)])
        self.assertEqual(check(("standard", "ABCDE", 10, 0, parts)), RIGHT)
        self.assertEqual(check(("standard", "ABCDE", 9, 0, parts)), ("wrong", 1))
        self.assertEqual(check(("standard", "ABCDE", 10, 1, parts)), ("wrong", 1))
        self.assertEqual(check(("standard", "ABCD", 10, 200, parts[1:])), RIGHT)
        half = STANDARD[:127]
        self.assertEqual(check(("standard", "ABA", 8, 0, (half, "h"))), RIGHT)
        self.assertEqual(check(("standard", "ABA", 7, 0, (half, "h"))), ("wrong", 1))
        self.assertEqual(check(("standard", "A" * 20, 10, 0, ("a" * 200,))), ("wrong", 1))
        self.assertEqual(check(("standard", "AB", 10, 1022, ("a", "b" * 200))), ("wrong", 1))
        self.assertEqual(check(("standard", "A", 10, 1022, ("a",))), RIGHT)
        self.assertEqual(check(("standard", "A", 10, 0, (STANDARD[:201],))), ("wrong", 0))

    def test_any_value(self):
        for value in NO_INTEGERS + [-1, 11, 12, 2 ** 70, -2 ** 70]:
            with self.subTest(value=value):
                self.assertEqual(check(("standard", "A", value, 0, ("a",))), ("wrong", 0))
        for value in NO_INTEGERS + [-1, -2, -2 ** 70]:
            with self.subTest(value=value):
                self.assertEqual(check(("standard", "A", 5, value, ("a",))), ("wrong", 0))
        for value in NO_ASSIGNMENTS:
            with self.subTest(value=value):
                self.assertEqual(check(("standard", "ABA", 5, 0, value)), ("wrong", 0))
        for start in (31, 32, 200, 10 ** 9, 2 ** 70, 10 ** 100):
            self.assertEqual(check(("standard", "A", 5, start, ("a",))), ("wrong", 1))
        self.assertEqual(check(("standard", "A", 0, 0, ("a",))), ("wrong", 1))
        self.assertEqual(check(("standard", "A", 1, 0, ("a",))), RIGHT)


class Chains(unittest.TestCase):
    def test_chains_and_changed_ones(self):
        chance = random.Random(4)
        for pattern in samples(5, 100):
            chain = random_chain(pattern, chance)
            if chain is None:
                continue
            self.assertEqual(check(("chain", pattern, chain)), RIGHT)
            for value in self.changed(pattern, chain, chance):
                expected = judged(slow_is_chain(pattern, value))
                self.assertEqual(check(("chain", pattern, value)), expected, (pattern, value))

    def changed(self, pattern, chain, chance):
        at = chance.randrange(len(chain))
        some = chance.choice(letter_sets(pattern))
        mixed = chance.sample(chain, len(chain))
        return [
            chain[:at] + chain[at + 1:], chain + [chain[at]], chain[:at] + [chain[at]] + chain[at:],
            chain[:at] + [some] + chain[at:], chain[:at] + [some] + chain[at + 1:], mixed, chain[::-1], [], [some],
        ]

    def test_any_value(self):
        self.assertEqual(check(("chain", "ABA", ["A", "B"])), RIGHT)
        values = [["B", "A"], ["A"], ["AB"], ["A", "B", ""], ["A", ["B"]], ("A", "B"), "AB", ["A", "B", "C"], [1, 2]]
        for value in values + [other for other in NO_STRINGS if other != ["A", "B"]] + ["", NESTED_LIST]:
            with self.subTest(value=value):
                self.assertEqual(check(("chain", "ABA", value)), ("wrong", 0))


class Families(unittest.TestCase):
    def test_families_and_changed_ones(self):
        chance = random.Random(6)
        for pattern in samples(7, 100):
            family = reachable_sets(pattern)
            self.assertEqual(check(("closed", pattern, family)), judged(closed_family(pattern) is not None))
            at = chance.randrange(len(family))
            some = chance.choice(letter_sets(pattern))
            for value in (
                family[:at] + family[at + 1:], family + [family[at]], family + [some],
                family[:at] + [some] + family[at:], family[:at] + [some] + family[at + 1:], family[::-1], chance.sample(family, len(family)), [],
                family + [""], [some],
            ):
                expected = judged(slow_is_family(pattern, value))
                self.assertEqual(check(("closed", pattern, value)), expected, (pattern, value))

    def test_any_value(self):
        self.assertEqual(check(("closed", "AAB", ["AB", "A"])), RIGHT)
        values = [["AB"], ["A"], ["A", "AB", ""], ["A", "AB", "AB"], ["AB", ["A"]], ("A", "AB"), "AB", ["A", "BA"]]
        for value in values + NO_STRINGS + ["", NESTED_LIST]:
            with self.subTest(value=value):
                self.assertEqual(check(("closed", "AAB", value)), ("wrong", 0))


class Avoids(unittest.TestCase):
    def test_compared(self):
        chance = random.Random(8)
        answers = []
        for _ in range(300):
            pattern = random_pattern(chance, chance.randint(1, 12), chance.randint(1, 5))
            word = random_word(chance, chance.randint(0, 24), chance.choice(["a", "ab", "abc", "abcdefgh"]))
            holds = not regex_meets(pattern, word)
            answers.append(holds)
            self.assertEqual(check(("avoids", pattern, word)), judged(holds), (pattern, word))
        self.assertGreater(answers.count(True), 60)
        self.assertGreater(answers.count(False), 60)

    def test_hardest(self):
        chance = random.Random(9)
        words = [square_free(24), "a" * 24, "ab" * 12, random_word(chance, 24, "abc"), "abcdefghijklmnopqrstuvwx"]
        patterns = [random_pattern(chance, 20, 7) for _ in range(10)]
        patterns += ["ABCDEFG", "ABCDEFGG", "ABCDEFGA", "AABBCCDDEEFFGG", "ABCDEFGABCDEFG", "A" * 20, "ABACABADABACABA"]
        with within_seconds(self, 60):
            for pattern in patterns:
                for word in words:
                    expected = judged(not regex_meets(pattern, word))
                    self.assertEqual(check(("avoids", pattern, word)), expected, (pattern, word))

    def test_edges(self):
        self.assertEqual(check(("avoids", "A", "")), RIGHT)
        self.assertEqual(check(("avoids", "A", "a")), ("wrong", 0))
        self.assertEqual(check(("avoids", "AA", "ab" * 2)), ("wrong", 0))
        self.assertEqual(check(("avoids", "A" * 20, "a" * 19)), RIGHT)


class Errors(unittest.TestCase):
    def test_no_certificates(self):
        meets = ("meets", "A", "a", 0, ("a",))
        standard = ("standard", "A", 1, 0, ("a",))
        shorts = [("chain", "A", ["A"]), ("closed", "AA", ["A"]), ("avoids", "AA", "a")]
        values = [(), ("meets",), ("right",), ("wrong", 0), ("other", "A", ["A"]), ("", "A", ["A"]), "meets", "chain"]
        for right in [meets, standard] + shorts:
            self.assertEqual(check(right), RIGHT)
            values += [right[:-1], right + (0,), right + (None,), right[1:], list(right), (right,), [right], right[:1]]
            values += [(first,) + right[1:] for first in NO_STRINGS + ["", "Meets", "meets ", "chains", "right"]]
            values += [(right[0].upper(),) + right[1:], ((right[0],),) + right[1:], right[:2]]
        values += [meets[:3], standard[:3], meets[:4], shorts[0] + (0, 0), ("chain",) + meets[1:]]
        for value in values + NO_STRINGS + [NESTED_LIST, NESTED_TUPLE]:
            with self.subTest(value=value):
                before = deepcopy(value)
                self.assertRaises(NotACertificate, check, value)
                self.assertEqual(value, before)

    def test_no_patterns(self):
        for value in NO_PATTERNS:
            with self.subTest(value=value):
                self.assertRaises(InvalidPattern, check, ("meets", value, "a", 0, ("a",)))
                self.assertRaises(InvalidPattern, check, ("meets", value, None, None, None))
                self.assertRaises(InvalidPattern, check, ("chain", value, ["A"]))
                self.assertRaises(InvalidPattern, check, ("closed", value, None))
                self.assertRaises(InvalidPattern, check, ("standard", value, 1, 0, ("a",)))
                self.assertRaises(InvalidPattern, check, ("standard", value, None, None, None))
                self.assertRaises(InvalidPattern, check, ("avoids", value, "a" * 25))
                self.assertRaises(InvalidPattern, check, ("avoids", value, None))

    def test_no_words(self):
        for value in NO_WORDS:
            with self.subTest(value=value):
                self.assertRaises(InvalidWord, check, ("meets", "A", value, 0, ("a",)))
                self.assertRaises(InvalidWord, check, ("meets", "A", value, None, None))
                self.assertRaises(InvalidWord, check, ("avoids", "A", value))

    def test_long_words(self):
        for length in (25, 26, 100, 200):
            self.assertRaises(TooLong, check, ("avoids", "A", "a" * length))
            self.assertRaises(TooLong, check, ("avoids", "ABCDEFG", "z" * length))
            self.assertEqual(check(("meets", "A", "a" * length, length - 1, ("a",))), RIGHT)
        self.assertEqual(check(("avoids", "A", "a" * 24)), ("wrong", 0))

    def test_arguments_stay(self):
        for value in (
            ("chain", "ABA", ["A", "B"]), ("chain", "ABA", ["B", ["A"]]), ("closed", "AAB", ["A", "AB"]),
            ("closed", "AAB", ["AB", "AB"]), ("meets", "AB", "ab", [0], ["a", "b"]),
            ("standard", "A", [1], [], [["a"]]),
        ):
            before = deepcopy(value)
            check(value)
            self.assertEqual(value, before)


class HandedInAgain(unittest.TestCase):
    """A list is judged by what it holds at the time of the call."""

    def test_changed_chains(self):
        chain = shortest_chain("ABACABA")
        self.assertEqual(check(("chain", "ABACABA", chain)), RIGHT)
        self.assertEqual(check(("chain", "ABA", chain)), ("wrong", 0))
        last = chain.pop()
        self.assertEqual(check(("chain", "ABACABA", chain)), ("wrong", 0))
        chain.append(last)
        self.assertEqual(check(("chain", "ABACABA", chain)), RIGHT)
        chain.reverse()
        self.assertEqual(check(("chain", "ABACABA", chain)), ("wrong", 0))
        self.assertEqual(check(("chain", "CBCACBC", chain)), RIGHT)

    def test_changed_families(self):
        family = closed_family("AAB")
        self.assertEqual(check(("closed", "AAB", family)), RIGHT)
        self.assertEqual(check(("closed", "AABB", family)), ("wrong", 0) if "B" in family else RIGHT)
        self.assertEqual(check(("closed", "ABA", family)), ("wrong", 0))
        family.remove("A")
        self.assertEqual(check(("closed", "AAB", family)), ("wrong", 0))
        self.assertEqual(check(("closed", "AABB", family)), RIGHT)
        family.append("A")
        self.assertEqual(check(("closed", "AAB", family)), RIGHT)
        self.assertEqual(closed_family("AAB"), ["A", "AB"])
