import random
import unittest
from copy import deepcopy

from surepatterns.chains import shortest_chain
from surepatterns.checker import check
from surepatterns.cuts import cut_list, delay_of, is_cut_list, two_places
from surepatterns.errors import NotACertificate, TooMany
from surepatterns.factors import factors_of, is_factor_list
from surepatterns.far import far_occurrence, far_word
from surepatterns.records import judge
from surepatterns.shapes import live_steps
from surepatterns.ways import are_closed_shapes, closed_shapes, is_way, way_of
from surepatterns.wrongs import InvalidRule, NoDelay, NotARecord
from tests.helper import (
    CAPITALS, NESTED_LIST, NESTED_TUPLE, NO_INTEGERS, NO_STRINGS, NO_WORDS, SMALL, random_word, within_seconds,
)
from tests.slow_rules import (
    FIBONACCI, FOUR, MORSE, NO_DELAY, NO_RULES, capitals, letters_of_rule, slow_delay, slow_factors, slow_word,
)
from tests.test_factors import some_rules
from tests.test_far import END, LOOP, some_ways
from tests.test_shapes import NO_SHAPES, random_shape, shape_in, some_delayed_rules
from tests.test_ways import CUBE, found_or_many

RIGHT = ("right",)
LAST = 10 ** 60
ANY = NO_STRINGS + ["", "a", "A", "abba", NESTED_LIST, NESTED_TUPLE]


def bent(value, chance):
    """The value with something changed at any depth."""
    if isinstance(value, (list, tuple)) and len(value) and chance.random() < 0.85:
        at = chance.randrange(len(value))
        rows = list(value)
        kind = chance.randrange(6)
        if kind < 3:
            rows[at] = bent(rows[at], chance)
        elif kind == 3:
            del rows[at]
        elif kind == 4:
            rows.insert(at, rows[at])
        else:
            rows.reverse()
        return rows if isinstance(value, list) else tuple(rows)
    if isinstance(value, str):
        return chance.choice([value[1:], value + "a", value[::-1], value.upper(), value.lower(), list(value), "b"])
    if isinstance(value, int):
        return chance.choice([value + 1, -value, bool(value), str(value), value + 2 ** 70])
    return chance.choice([None, tuple(value), list(value), 7] if isinstance(value, (list, tuple)) else [None, 7, "a"])


def number_is(value, low, high):
    return isinstance(value, int) and not isinstance(value, bool) and low <= value <= high


def word_is(rule, value, most=200):
    return isinstance(value, str) and 1 <= len(value) <= most and not set(value) - set(letters_of_rule(rule))


def shape_is(rule, value):
    if not isinstance(value, str) or not 1 <= len(value) <= 60:
        return False
    return 1 <= len(capitals(value)) <= 7 and not set(value) - set(CAPITALS + letters_of_rule(rule))


def slow_judge(record):
    """The conditions of point 28 by its words and the other functions, one after the other."""
    kind, rule, *entries = record
    for number, holds in enumerate(CONDITIONS[kind]):
        if not holds(rule, *entries):
            return ("wrong", number)
    return RIGHT


def words_fit(rule, shape, words):
    if not isinstance(words, tuple) or len(words) != len(capitals(shape)):
        return False
    return all([word_is(rule, word) for word in words])


def whole(shape, words):
    table = dict(zip(capitals(shape), words))
    return "".join([table.get(letter, letter) for letter in shape])


def stands(rule, word, place):
    return slow_word(rule, place, len(word)) == word


CONDITIONS = {
    "factors": [
        lambda rule, length, words: number_is(length, 1, 16),
        lambda rule, length, words: is_factor_list(rule, length, words),
    ],
    "cuts": [
        lambda rule, length, rows: number_is(length, 1, 16),
        lambda rule, length, rows: is_cut_list(rule, length, rows),
        lambda rule, length, rows: len(set(rows)) == len({word for word, _ in rows}),
    ],
    "uncut": [
        lambda rule, word, place, other: word_is(rule, word, 12),
        lambda rule, word, place, other: number_is(place, 0, LAST) and number_is(other, 0, LAST),
        lambda rule, word, place, other: place % len(rule[0]) != other % len(rule[0]),
        lambda rule, word, place, other: stands(rule, word, place) and stands(rule, word, other),
    ],
    "way": [lambda rule, shape, way: shape_is(rule, shape), lambda rule, shape, way: is_way(rule, shape, way)],
    "closed": [
        lambda rule, shape, shapes: shape_is(rule, shape),
        lambda rule, shape, shapes: are_closed_shapes(rule, shapes),
        lambda rule, shape, shapes: shape in shapes,
    ],
    "far": [
        lambda rule, shape, place, words: shape_is(rule, shape),
        lambda rule, shape, place, words: number_is(place, 0, LAST),
        lambda rule, shape, place, words: words_fit(rule, shape, words),
        lambda rule, shape, place, words: stands(rule, whole(shape, words), place),
    ],
}


class Judged(unittest.TestCase):
    def check(self, record):
        before = deepcopy(record)
        expected = slow_judge(record)
        self.assertEqual(judge(record), expected, record)
        self.assertEqual(record, before)
        return expected

    def check_near(self, record, chance, many):
        """The record is right; records near it, and with values of every kind in the entries behind the rule."""
        self.assertEqual(judge(record), RIGHT, record)
        self.assertEqual(slow_judge(record), RIGHT)
        answers = []
        for _ in range(many):
            at = chance.randrange(2, len(record))
            changed = record[:at] + (bent(record[at], chance),) + record[at + 1:]
            answers.append(self.check(changed))
            if chance.random() < 0.4:
                at = chance.randrange(2, len(record))
                answers.append(self.check(changed[:at] + (bent(changed[at], chance),) + changed[at + 1:]))
            at = chance.randrange(2, len(record))
            answers.append(self.check(record[:at] + (chance.choice(ANY),) + record[at + 1:]))
        return answers

    def check_all_numbers(self, answers, many):
        for number in range(many):
            self.assertGreater(answers.count(("wrong", number)), 3, number)
        self.assertEqual(answers.count(("wrong", many)), 0)


class Factors(Judged):
    def test_told_lists(self):
        chance = random.Random(1)
        answers = []
        for rule in some_rules(2, 27):
            for length in (1, 2, 3, 5, 9, 16):
                answers += self.check_near(("factors", rule, length, factors_of(rule, length)), chance, 3)
        self.check_all_numbers(answers, 2)
        self.assertGreater(answers.count(RIGHT), 10)

    def test_examples(self):
        words = factors_of(MORSE, 3)
        self.assertEqual(judge(("factors", MORSE, 3, words)), RIGHT)
        self.assertEqual(judge(("factors", MORSE, 3, words[1:])), ("wrong", 1))
        self.assertEqual(judge(("factors", MORSE, 3, tuple(words))), ("wrong", 1))
        for length in NO_INTEGERS + [0, 17, -1]:
            self.assertEqual(judge(("factors", MORSE, length, words)), ("wrong", 0))
            self.assertEqual(judge(("factors", MORSE, length, None)), ("wrong", 0))


class Cuts(Judged):
    def test_told_lists(self):
        chance = random.Random(3)
        answers = []
        for rule in some_delayed_rules(4, 36):
            delay = slow_delay(rule)
            for length in {delay, min(16, delay + 3), 16}:
                answers += self.check_near(("cuts", rule, length, cut_list(rule, length)), chance, 4)
            for length in range(1, delay):
                self.assertEqual(self.check(("cuts", rule, length, cut_list(rule, length))), ("wrong", 2))
                answers.append(self.check(("cuts", rule, length, bent(cut_list(rule, length), chance))))
        answers += [("wrong", 2)] * 4
        self.check_all_numbers(answers, 3)

    def test_twice_and_other_cuts(self):
        rows = cut_list(MORSE, 4)
        self.assertEqual(judge(("cuts", MORSE, 4, rows + rows)), RIGHT)
        self.assertEqual(judge(("cuts", MORSE, 4, rows + [("abba", 1)])), ("wrong", 2))
        self.assertEqual(judge(("cuts", MORSE, 4, [("abba", 1)] + rows)), ("wrong", 2))
        self.assertEqual(judge(("cuts", MORSE, 4, [row for row in rows if row != ("abba", 0)])), ("wrong", 1))
        self.assertEqual(judge(("cuts", MORSE, 3, rows)), ("wrong", 1))
        self.assertEqual(judge(("cuts", MORSE, True, rows)), ("wrong", 0))
        for rule in NO_DELAY:
            self.assertEqual(judge(("cuts", rule, 12, cut_list(rule, 12))), ("wrong", 2))


class Uncut(Judged):
    def test_told_places(self):
        chance = random.Random(5)
        answers = []
        for rule in some_rules(6, 36):
            for length in range(1, 13):
                found = two_places(rule, length)
                if found is not None:
                    self.assertEqual(judge(("uncut", rule) + (found[0], found[2], found[1])), RIGHT)
                    answers += self.check_near(("uncut", rule) + found, chance, 3)
        self.check_all_numbers(answers, 4)

    def test_examples(self):
        self.assertEqual(judge(("uncut", MORSE, "aba", 10, 3)), RIGHT)
        self.assertEqual(judge(("uncut", MORSE, "aba", 3, 3)), ("wrong", 2))
        self.assertEqual(judge(("uncut", MORSE, "aba", 3, 4)), ("wrong", 3))
        self.assertEqual(judge(("uncut", MORSE, "aba", 2, 3)), ("wrong", 3))
        self.assertEqual(judge(("uncut", ("aa", "ab"), "a" * 12, LAST, LAST - 1)), RIGHT)
        self.assertEqual(judge(("uncut", ("aa", "ab"), "a" * 12, LAST + 1, LAST)), ("wrong", 1))
        self.assertEqual(judge(("uncut", ("aa", "ab"), "a" * 13, 0, 1)), ("wrong", 0))
        for value in NO_WORDS + ["", "c", "a" * 13]:
            self.assertEqual(judge(("uncut", MORSE, value, None, None)), ("wrong", 0))
        for value in NO_INTEGERS + [-1, LAST + 1]:
            self.assertEqual(judge(("uncut", MORSE, "a", value, 0)), ("wrong", 1))
            self.assertEqual(judge(("uncut", MORSE, "a", 0, value)), ("wrong", 1))


class Ways(Judged):
    def test_told_ways(self):
        chance = random.Random(7)
        answers = []
        for rule, shape, way in some_ways(8, 63):
            answers += self.check_near(("way", rule, shape, way), chance, 5)
        self.check_all_numbers(answers, 2)
        self.assertGreater(answers.count(RIGHT), 3)

    def test_long_ways(self):
        chance = random.Random(9)
        way = [LOOP] * 99 + [END]
        self.check_near(("way", MORSE, "AA", way), chance, 60)
        self.assertEqual(judge(("way", MORSE, "AAA", way)), ("wrong", 1))

    def test_no_shapes(self):
        for value in NO_SHAPES:
            self.assertEqual(judge(("way", MORSE, value, [END])), ("wrong", 0))
            self.assertEqual(judge(("closed", MORSE, value, CUBE)), ("wrong", 0))
            self.assertEqual(judge(("far", MORSE, value, 0, ("a",))), ("wrong", 0))


class Closed(Judged):
    def test_told_lists(self):
        chance = random.Random(10)
        answers = []
        for rule in some_delayed_rules(11, 63):
            shape = random_shape(rule, chance)
            shapes = found_or_many(closed_shapes, rule, shape)
            if isinstance(shapes, list):
                answers += self.check_near(("closed", rule, shape, shapes), chance, 5)
                answers.append(self.check(("closed", rule, "A", shapes)))
        self.check_all_numbers(answers, 3)

    def test_examples(self):
        self.assertEqual(judge(("closed", MORSE, "AAA", CUBE)), RIGHT)
        self.assertEqual(judge(("closed", MORSE, "aAaAaAa", CUBE)), RIGHT)
        self.assertEqual(judge(("closed", MORSE, "AA", CUBE)), ("wrong", 2))
        self.assertEqual(judge(("closed", MORSE, "AAA", [])), ("wrong", 2))
        self.assertEqual(judge(("closed", MORSE, "AAA", CUBE[:2])), ("wrong", 1))
        self.assertEqual(judge(("closed", MORSE, "ABC", ["ABC"])), ("wrong", 1))

    def test_many_shapes_with_many_steps(self):
        for rule, shape in ((("aab", "bab"), "AAABAC"), (("aca", "acb", "bba"), "ABABAB"), (("ab", "ba"), "ABABAB")):
            shapes = closed_shapes(rule, shape)
            self.assertEqual(judge(("closed", rule, shape, shapes)), RIGHT)
            self.assertEqual(judge(("closed", rule, shape, shapes[:-1])), ("wrong", 1))
        self.assertRaises(TooMany, live_steps, ("aab", "bab"), "AAABAC")


class Far(Judged):
    def test_told_occurrences(self):
        chance = random.Random(12)
        answers = []
        for rule, shape, way in some_ways(13, 63):
            place, lengths = far_occurrence(rule, shape, way)
            if max(lengths) <= 200 and place <= LAST:
                words = self.words_at(rule, shape, place, lengths)
                answers += self.check_near(("far", rule, shape, place, words), chance, 5)
        self.check_all_numbers(answers, 4)

    def words_at(self, rule, shape, place, lengths):
        table = dict(zip(capitals(shape), lengths))
        words = {}
        for letter in shape:
            if letter in table:
                words[letter] = far_word(rule, place, table[letter])
            place += table.get(letter, 1)
        return tuple([words[letter] for letter in capitals(shape)])

    def test_drawn_places(self):
        chance = random.Random(14)
        for rule in some_rules(15, 36):
            for place in (chance.randrange(100), chance.randrange(LAST - 5000), LAST):
                sizes = [chance.choice([1, 2, 5, 50, 200]) for _ in range(3)]
                first = slow_word(rule, place, sizes[0])
                second = slow_word(rule, place + sizes[0] + 1, sizes[1])
                letter = slow_word(rule, place + sizes[0], 1)
                record = ("far", rule, "X" + letter + "Y", place, (first, second))
                self.assertEqual(judge(record), RIGHT)
                self.check(("far", rule, "Y" + letter + "Y", place, (first,)))
                changed = random_word(chance, sizes[0], letters_of_rule(rule))
                self.check(("far", rule, "X" + letter + "Y", place, (changed, second)))
                self.check(("far", rule, "XY", place + 1, (first, second)))

    def test_examples(self):
        self.assertEqual(judge(("far", MORSE, "AA", 5, ("a",))), RIGHT)
        self.assertEqual(judge(("far", MORSE, "AA", 10, ("ab",))), RIGHT)
        self.assertEqual(judge(("far", MORSE, "AA", 4, ("a",))), ("wrong", 3))
        self.assertEqual(judge(("far", MORSE, "AAA", 4, ("aaa",))), ("wrong", 3))
        for words in (("",), ("a", "b"), ["a"], "a", ("c",), ("A",), (None,), (), ("a" * 201,), (["a"],), (("a",),), None):
            self.assertEqual(judge(("far", MORSE, "AA", 5, words)), ("wrong", 2), words)
        for place in NO_INTEGERS + [-1, LAST + 1, 2 ** 300]:
            self.assertEqual(judge(("far", MORSE, "AA", place, ("a",))), ("wrong", 1))
            self.assertEqual(judge(("far", MORSE, "AA", place, None)), ("wrong", 1))
        # The first letters alone decide, and the rule need not have a delay.
        self.assertEqual(judge(("far", ("aa", "ab"), "A" * 60, LAST, ("a" * 200,))), RIGHT)
        self.assertEqual(judge(("far", ("ab", "bb"), "A" * 60, 1, ("b" * 200,))), RIGHT)
        self.assertEqual(judge(("far", ("ab", "bb"), "aA", 0, ("b" * 200,))), RIGHT)


class Errors(unittest.TestCase):
    def records(self, rule):
        return [
            ("factors", rule, 1, None), ("cuts", rule, 1, None), ("uncut", rule, "a", 0, 0), ("way", rule, "A", None),
            ("closed", rule, "A", None), ("far", rule, "A", 0, None),
        ]

    def test_no_records(self):
        values = NO_STRINGS + ["", "factors", ("factors",), ("other", MORSE, 1, []), (["factors"], MORSE, 1, []), {}]
        values += [("meets", "A", "a", 0, ("a",)), ("chain", "A", ["A"]), ("closed", "A", ["A"]), ("avoids", "A", "b")]
        values += [("standard", "ABA", 3, 2, ("a", "c")), ("FAR", MORSE, "A", 0, ("a",)), (0, MORSE, "A", [])]
        values += [(None, MORSE, 1, []), (True, MORSE, 1, []), (("way",), MORSE, "A", []), NESTED_LIST, NESTED_TUPLE]
        for record in self.records(MORSE):
            values += [record[:-1], record + (None,), list(record), (record,), [record], record[1:], record[:1]]
        for value in values:
            with self.subTest(value=value):
                self.assertRaises(NotARecord, judge, value)

    def test_no_rules(self):
        for value in NO_RULES:
            with self.subTest(value=value):
                for record in self.records(value):
                    self.assertRaises(InvalidRule, judge, record)

    def test_no_delay(self):
        for rule in NO_DELAY:
            for kind, _, *entries in self.records(rule):
                record = (kind, rule, *entries)
                if kind in ("way", "closed"):
                    self.assertRaises(NoDelay, judge, record)
                    self.assertRaises(NoDelay, judge, (kind, rule, None, None))
                else:
                    self.assertEqual(judge(record)[0], "wrong")

    def test_certificates_and_records(self):
        chain = ("chain", "ABA", shortest_chain("ABA"))
        self.assertEqual(check(chain), RIGHT)
        self.assertRaises(NotARecord, judge, chain)
        self.assertRaises(NotACertificate, check, ("closed", MORSE, "AAA", CUBE))


class Together(unittest.TestCase):
    def test_one_right_record_of_two_kinds(self):
        chance = random.Random(16)
        for rule in some_delayed_rules(17, 45):
            for shape in (random_shape(rule, chance), shape_in(rule, chance)):
                way = found_or_many(way_of, rule, shape)
                if way != "TooMany":
                    shapes = closed_shapes(rule, shape)
                    answers = [judge(("way", rule, shape, way)), judge(("closed", rule, shape, shapes))]
                    self.assertEqual(answers.count(RIGHT), 1)
                    self.assertEqual(answers[0] == RIGHT, way is not None)

    def test_cuts_at_the_delay(self):
        for rule in some_rules(18, 36):
            delay = delay_of(rule)
            for length in range(1, 13):
                answers = [judge(("cuts", rule, length, cut_list(rule, length)))]
                found = two_places(rule, length)
                answers.append(RIGHT if found is None else judge(("uncut", rule) + found))
                has_one_cut = delay is not None and length >= delay
                self.assertEqual(answers, [RIGHT if has_one_cut else ("wrong", 2), RIGHT])
                self.assertIs(found is None, has_one_cut)

    def test_hardest(self):
        rows = []
        for rule, shape in ((("aab", "bab"), "AAABAC"), (("abc", "aba", "cab"), "AAAC"), (FIBONACCI, "ABBCCCCA")):
            rows.append(("closed", rule, shape, closed_shapes(rule, shape)))
        rows.append(("way", MORSE, "AA", [LOOP] * 99 + [END]))
        rows.append(("far", FOUR, "A" * 60, LAST, ("abcd" * 50,)))
        rows.append(("factors", ("abcd", "bcda", "cdab", "dabc"), 16, list(slow_factors(("abcd", "bcda", "cdab", "dabc"), 16))))
        with within_seconds(self, 60):
            for _ in range(8):
                for row in rows:
                    judge(row)

    def test_letters(self):
        self.assertEqual(judge(("far", FOUR, "A", 0, (SMALL[:2],))), RIGHT)
