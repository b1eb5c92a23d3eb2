import random
import unittest

from surepatterns.errors import InvalidNumber
from surepatterns.factors import factor_place, is_factor
from surepatterns.far import far_occurrence, far_word
from surepatterns.rules import rule_letter, rule_start
from surepatterns.ways import way_of
from surepatterns.wrongs import InvalidRule, InvalidShape, InvalidWay, NoDelay
from tests.helper import CAPITALS, NESTED_LIST, NO_INTEGERS, NO_STRINGS, within_seconds
from tests.slow_rules import (
    LATE, MORSE, NO_DELAY, NO_RULES, ONCE, SOME_NO_RULES, capitals, slow_far, slow_is_way,
    slow_letter_choices, slow_word,
)
from tests.test_shapes import NO_SHAPES, random_shape, shape_in, some_delayed_rules
from tests.test_ways import found_or_many, steps_or_none

LOOP = ("AA", (("", ""),))
END = ("AA", (("a",),))


def some_ways(seed, many):
    """Told ways, and ways with live steps put ahead of them."""
    chance = random.Random(seed)
    rows = []
    for rule in some_delayed_rules(seed, many):
        for shape in (random_shape(rule, chance), shape_in(rule, chance)):
            way = found_or_many(way_of, rule, shape)
            if isinstance(way, list):
                rows.append((rule, shape, way))
                rows += ahead(rule, shape, chance)
    return rows


def ahead(rule, shape, chance):
    rows = []
    steps = [step for step in steps_or_none(rule, shape) if capitals(step[1])]
    for choices, result in chance.sample(steps, min(3, len(steps))):
        onward = found_or_many(way_of, rule, result)
        if isinstance(onward, list):
            rows.append((rule, shape, [(shape, choices)] + onward))
    return rows


class FarOccurrence(unittest.TestCase):
    def test_examples(self):
        self.assertEqual(far_occurrence(MORSE, "AA", [END]), (5, (1,)))
        self.assertEqual(far_occurrence(MORSE, "AA", [LOOP, END]), (10, (2,)))
        self.assertEqual(far_occurrence(MORSE, "AA", [("AA", (("ab",),))]), (10, (2,)))
        # The first block begins with an end of one letter of the image of a letter with the length 2.
        way = [("bAa", (("", ""),)), ("aAa", (("b",),))]
        self.assertEqual(far_occurrence(MORSE, "bAa", way), (7, (2,)))
        self.assertEqual(rule_start(MORSE, 11)[7:], "bbaa")

    def test_ways(self):
        sizes = []
        firsts = []
        for rule, shape, way in some_ways(1, 90):
            found = far_occurrence(rule, shape, way)
            self.assertEqual(found, slow_far(rule, way), (rule, shape, way))
            self.check_stands(rule, shape, found[0], found[1])
            sizes.append(len(way))
            firsts.append(found[0] % len(rule[0]))
        self.assertGreater(len([size for size in sizes if size > 1]), 30)
        self.assertGreater(len([first for first in firsts if first > 0]), 30)

    def check_stands(self, rule, shape, place, lengths):
        """The shape stands at the place with words of these lengths, letter by letter."""
        self.assertEqual(len(lengths), len(capitals(shape)))
        table = dict(zip(capitals(shape), lengths))
        words = {}
        for letter in shape:
            if letter in CAPITALS:
                self.assertGreater(table[letter], 0)
                word = slow_word(rule, place, min(table[letter], 100))
                self.assertEqual(words.setdefault(letter, word), word)
                place += table[letter]
            else:
                self.assertEqual(slow_word(rule, place, 1), letter)
                place += 1

    def test_loops_put_ahead(self):
        for many in range(1, 100):
            place, lengths = far_occurrence(MORSE, "AA", [LOOP] * many + [END])
            self.assertEqual((place, lengths), (5 * 2 ** many, (2 ** many,)))
        loop = ("AaBb", (("", "b"), ("", "a")))
        self.assertEqual(far_occurrence(MORSE, "AA", [LOOP] * 99 + [END])[0], 5 * 2 ** 99)
        self.assertRaises(InvalidWay, far_occurrence, MORSE, "AaBb", [loop] * 99)

    def test_long_ways(self):
        """Ways of a hundred tuples of every rule that has a loop at some shape."""
        chance = random.Random(2)
        figures = []
        for rule in some_delayed_rules(3, 45):
            shape = random_shape(rule, chance, 4, 2)
            rows = {each: steps_or_none(rule, each) for each in (shape, "A", "AB", "aA")}
            for each, steps in rows.items():
                loops = [choices for choices, result in steps if result == each]
                ends = [choices for choices, result in steps if not capitals(result)]
                if loops and ends:
                    way = [(each, chance.choice(loops)) for _ in range(99)] + [(each, chance.choice(ends))]
                    found = far_occurrence(rule, each, way)
                    self.assertEqual(found, slow_far(rule, way))
                    self.check_stands(rule, each, found[0], found[1])
                    figures.append(len(str(found[0])))
        self.assertGreater(max(figures), 25)

    def test_one_letter_gets_a_word_and_another_goes_on(self):
        rows = [row for row in some_ways(4, 90) if len(row[2]) > 1 and len(capitals(row[1])) > 1]
        mixed = 0
        for rule, shape, way in rows:
            if len({len(choice) for choice in way[0][1]}) == 2:
                mixed += 1
                found = far_occurrence(rule, shape, way)
                for choice, length in zip(way[0][1], found[1]):
                    if len(choice) == 1:
                        self.assertEqual(length, len(choice[0]))
        self.assertGreater(mixed, 10)

    def test_no_ways(self):
        chance = random.Random(5)
        wrong = 0
        for rule, shape, way in some_ways(6, 27):
            at = chance.randrange(len(way))
            each, choices = way[at]
            other = tuple([chance.choice(slow_letter_choices(rule)) for _ in choices])
            for value in (
                way[:at] + [(each, other)] + way[at + 1:], way[:at] + [(each + "A", choices)] + way[at + 1:],
                way[1:], way + way, tuple(way), [list(row) for row in way], [], None,
            ):
                is_list = isinstance(value, list) and all([isinstance(row, tuple) for row in value])
                if not is_list or not slow_is_way(rule, shape, value):
                    self.assertRaises(InvalidWay, far_occurrence, rule, shape, value)
                    wrong += 1
        self.assertGreater(wrong, 100)

    def test_any_value(self):
        values = NO_STRINGS + ["", "AA", [("AA",)], [["AA", (("a",),)]], [LOOP], [END, END], [END, ("aa", ())], NESTED_LIST]
        for value in values:
            with self.subTest(value=value):
                self.assertRaises(InvalidWay, far_occurrence, MORSE, "AA", value)


class FarWord(unittest.TestCase):
    def test_examples(self):
        self.assertEqual(far_word(MORSE, 10, 4), "abab")
        self.assertEqual(far_word(MORSE, 0, 8), "abbabaab")
        self.assertEqual(far_word(MORSE, 10 ** 500, 0), "")
        self.assertEqual(far_word(ONCE, 0, 8), "abbcbccb")

    def test_first_places(self):
        for rule in some_delayed_rules(7, 18):
            start = rule_start(rule, 200)
            for place in (0, 1, 2, 3, 7, 20, 50, 99):
                for length in (0, 1, 2, 3, 10, 50, 100):
                    self.assertEqual(far_word(rule, place, length), start[place:place + length])

    def test_far_places(self):
        chance = random.Random(8)
        for rule in some_delayed_rules(9, 45):
            size = len(rule[0])
            power = size ** chance.randint(1, 250)
            for place in (chance.randrange(10 ** 180), chance.randrange(10 ** 20), power, power - 1, power - 100, power + 1):
                place = max(place, 0)
                length = chance.choice([0, 1, 2, 3, 5, 17, 60])
                self.assertEqual(far_word(rule, place, length), slow_word(rule, place, length), (rule, place))

    def test_the_longest_words(self):
        chance = random.Random(10)
        for rule in some_delayed_rules(11, 9):
            for place in (chance.randrange(10 ** 100), len(rule[0]) ** 100 - 100):
                self.assertEqual(far_word(rule, place, 200), slow_word(rule, place, 200))

    def test_letters(self):
        chance = random.Random(12)
        for rule in some_delayed_rules(13, 18):
            place = chance.choice([10 ** 60 - 5, chance.randrange(10 ** 60 - 5)])
            letters = "".join([rule_letter(rule, place + at) for at in range(6)])
            self.assertEqual(far_word(rule, place, 6), letters)

    def test_words_at_far_places_are_factors(self):
        chance = random.Random(14)
        for rule in some_delayed_rules(15, 36):
            word = far_word(rule, chance.randrange(10 ** 150), chance.randint(1, 200))
            self.assertIs(is_factor(rule, word), True)
            self.assertEqual(far_word(rule, factor_place(rule, word), len(word)), word)

    def test_wrong_places(self):
        for value in NO_INTEGERS + [-1, -2, -2 ** 300]:
            with self.subTest(value=value):
                self.assertRaises(InvalidNumber, far_word, MORSE, value, 3)
                self.assertRaises(InvalidNumber, far_word, MORSE, value, 0)

    def test_wrong_lengths(self):
        for value in NO_INTEGERS + [-1, 201, 2 ** 70]:
            with self.subTest(value=value):
                self.assertRaises(InvalidNumber, far_word, MORSE, 0, value)
                self.assertRaises(InvalidNumber, far_word, MORSE, 10 ** 100, value)


class Hardest(unittest.TestCase):
    def test_hardest(self):
        way = [LOOP] * 99 + [END]
        chance = random.Random(16)
        with within_seconds(self, 60):
            for _ in range(50):
                far_occurrence(MORSE, "AA", way)
            for rule in some_delayed_rules(17, 36):
                for _ in range(20):
                    far_word(rule, chance.randrange(10 ** 180), 200)
            self.assertEqual(len(far_word(LATE, 10 ** 1000, 200)), 200)


class Errors(unittest.TestCase):
    def test_no_rules(self):
        for value in NO_RULES:
            with self.subTest(value=value):
                self.assertRaises(InvalidRule, far_occurrence, value, "AA", [END])
                self.assertRaises(InvalidRule, far_word, value, 0, 0)
        for value in SOME_NO_RULES:
            self.assertRaises(InvalidRule, far_occurrence, value, None, None)
            self.assertRaises(InvalidRule, far_word, value, -1, None)

    def test_no_delay(self):
        for rule in NO_DELAY:
            self.assertRaises(NoDelay, far_occurrence, rule, "A", [("A", (("a",),))])
            self.assertRaises(NoDelay, far_occurrence, rule, None, None)
            self.assertRaises(NoDelay, far_word, rule, 0, 0)
            self.assertRaises(NoDelay, far_word, rule, None, None)

    def test_no_shapes(self):
        for value in NO_SHAPES:
            with self.subTest(value=value):
                self.assertRaises(InvalidShape, far_occurrence, MORSE, value, [END])
                self.assertRaises(InvalidShape, far_occurrence, MORSE, value, None)

    def test_arguments_do_not_change(self):
        way = [LOOP, LOOP, END]
        far_occurrence(MORSE, "AA", way)
        self.assertEqual(way, [LOOP, LOOP, END])
