import random
import unittest
from itertools import product

from surepatterns.errors import InvalidPattern, TooMany
from surepatterns.shapes import are_choices, is_dead, is_shape, live_steps, results_of
from surepatterns.wrongs import InvalidRule, InvalidShape, InvalidWay, NoDelay
from tests.helper import CAPITALS, NESTED_LIST, NESTED_TUPLE, NO_STRINGS, SMALL, random_word, within_seconds
from tests.slow_rules import (
    BY_DELAY, BY_HAND, FIBONACCI, FOUR, LATE, MORSE, NO_DELAY, NO_RULES, SOME_NO_RULES, capitals, letters_of_rule,
    random_delayed_rule, slow_blocks, slow_image, slow_is_dead, slow_is_factor, slow_letter_choices, slow_live_steps,
    slow_put_in, slow_results, slow_short_words, slow_start, slow_word,
)

NO_SHAPES = NO_STRINGS + ["", "a", "abba", "c", "Ac", "aBc", "A B", "A1", "A\n", " A", "A" * 61, "ABCDEFGH", "A-b"]
NO_CHOICES = NO_STRINGS + [
    "", "a", "aa", ((),), (("",),), (("a", "b", "a"),), [("a",)], (["a"],), (("a",), ("b",)), (("A",),), ((1,),),
    ((None, None),), (("a", None),), ((("a",), "b"),), (("ab", ""),), (("", "ab"),), (("aaa",),), (("abba",),),
    (("c",),), (("c", ""),), (("", "c"),), (("ababa",),), (NESTED_LIST,), (NESTED_TUPLE, NESTED_TUPLE), "a,", {"a": 1},
    ((True,),), (("a", True),), ((["a"],),),
]


def some_delayed_rules(seed, many):
    """Rules with a delay, of every size by chance, and those by hand."""
    chance = random.Random(seed)
    drawn = [random_delayed_rule(chance, 2 + at % 3, 2 + at // 3 % 3) for at in range(many)]
    return BY_HAND + BY_DELAY + drawn


def random_shape(rule, chance, longest=8, most=3):
    letters = chance.sample(CAPITALS, chance.randint(1, most))
    while True:
        some = letters + list(letters_of_rule(rule)) * chance.randint(0, 1)
        shape = "".join([chance.choice(some) for _ in range(chance.randint(1, longest))])
        if capitals(shape):
            return shape


def shape_in(rule, chance, longest=8):
    """A shape with an occurrence: some words that stand in the rule word are replaced by capital letters."""
    word = slow_word(rule, chance.randrange(10 ** 6), chance.randint(longest, 3 * longest))
    parts = chance.sample(sorted({word[at:at + size] for at in range(len(word)) for size in (1, 2, 3)}), 3)
    shape = word
    for part, letter in zip(parts, "XYZ"):
        shape = shape.replace(part, letter)
    return next((row for row in (shape[:longest], shape[-longest:]) if capitals(row)), "X")


def random_choices(rule, shape, chance):
    return tuple([chance.choice(slow_letter_choices(rule)) for _ in capitals(shape)])


class IsShape(unittest.TestCase):
    def test_examples(self):
        for value in ("A", "X", "aAb", "AbBaA", "ABCDEFG", "A" * 60, "a" * 59 + "Z", "Z" + "b" * 59, "ZYX"):
            self.assertIs(is_shape(MORSE, value), True, value)
        for value in ("A" * 61, "a" * 60 + "Z", "ABCDEFGH", "abba", "a" * 60, "AcB", "Ad"):
            self.assertIs(is_shape(MORSE, value), False, value)
        self.assertIs(is_shape(FOUR, "aBcDd"), True)
        self.assertIs(is_shape(FOUR, "aBcDe"), False)

    def test_many_capital_letters(self):
        for many in range(1, 12):
            for copies in (1, 2, 5):
                value = CAPITALS[:many] * copies
                self.assertIs(is_shape(MORSE, value), many <= 7 and len(value) <= 60, value)
                self.assertIs(is_shape(MORSE, "ab" + value), many <= 7 and len(value) <= 58, value)

    def test_letters(self):
        for rule in some_delayed_rules(1, 9):
            for letter in SMALL + CAPITALS + " .,-019\n":
                expected = letter in CAPITALS or letter in letters_of_rule(rule)
                self.assertIs(is_shape(rule, "A" + letter), expected)
                self.assertIs(is_shape(rule, letter + "A"), expected)

    def test_lengths(self):
        for length in range(1, 70):
            self.assertIs(is_shape(MORSE, ("Bab" * 30)[:length]), length <= 60)

    def test_any_value(self):
        for value in NO_SHAPES:
            with self.subTest(value=value):
                self.assertIs(is_shape(MORSE, value), False)


class IsDead(unittest.TestCase):
    def test_examples(self):
        self.assertIs(is_dead(MORSE, "aaAb"), False)
        self.assertIs(is_dead(MORSE, "Aaaab"), True)
        self.assertIs(is_dead(MORSE, "A"), False)
        for shape in ("aaaA", "Aaaa", "AaaaA", "AaaBaabbaabbA", "abAababaBba"):
            self.assertIs(is_dead(MORSE, shape), True, shape)

    def test_shapes(self):
        chance = random.Random(2)
        answers = []
        for rule in some_delayed_rules(3, 27):
            for _ in range(12):
                shape = random_shape(rule, chance, chance.choice([3, 8, 30]))
                answers.append(is_dead(rule, shape))
                self.assertIs(answers[-1], slow_is_dead(rule, shape), (rule, shape))
        self.assertGreater(answers.count(True), 50)
        self.assertGreater(answers.count(False), 50)

    def test_long_blocks(self):
        chance = random.Random(4)
        for rule in some_delayed_rules(5, 18):
            for place in (0, chance.randrange(10 ** 30)):
                block = slow_word(rule, place, chance.randint(17, 58))
                at = chance.randrange(len(block))
                other = block[:at] + chance.choice(letters_of_rule(rule)) + block[at + 1:]
                for shape in ("A" + block, block + "A", "A" + block + "A"):
                    self.assertIs(is_dead(rule, shape), False)
                for shape in ("A" + other, other + "A", "A" + other + "B"):
                    self.assertIs(is_dead(rule, shape), not slow_is_factor(rule, other))


class AreChoices(unittest.TestCase):
    def test_examples(self):
        for value in ((("a",),), (("bba",),), (("", ""),), (("a", ""),), (("", "b"),), (("b", "b"),)):
            self.assertIs(are_choices(MORSE, "AaA", value), True, value)
        self.assertIs(are_choices(MORSE, "AB", (("a",), ("b", ""))), True)
        self.assertIs(are_choices(MORSE, "AB", (("b", ""), ("a",))), True)
        self.assertIs(are_choices(MORSE, "AB", (("a",),)), False)
        # Both are letters of the rule, though c never comes in the rule word.
        self.assertIs(are_choices(("ab", "ba", "cc"), "A", (("c", "c"),)), True)
        self.assertIs(are_choices(("ab", "ba", "cc"), "A", (("c",),)), False)

    def test_values_near_choices(self):
        chance = random.Random(6)
        for rule in some_delayed_rules(7, 27):
            ends = {image[index:] for image in rule for index in range(1, len(image) + 1)}
            beginnings = {image[:index] for image in rule for index in range(len(image))}
            short = slow_short_words(rule)
            letters = letters_of_rule(rule)
            for _ in range(30):
                word = random_word(chance, chance.randint(0, 4), letters)
                other = random_word(chance, chance.randint(0, 4), letters)
                self.assertIs(are_choices(rule, "X", ((word,),)), word in short)
                self.assertIs(are_choices(rule, "X", ((word, other),)), word in ends and other in beginnings)
            for word in chance.sample(short, min(20, len(short))):
                self.assertIs(are_choices(rule, "X", ((word,),)), True)
                longer = word + chance.choice(letters)
                self.assertIs(are_choices(rule, "X", ((longer,),)), longer in short)
            reach = max([len(word) for word in short]) + 1
            for length in (reach - 1, reach, reach + 1, 100):
                self.assertIs(are_choices(rule, "X", ((slow_start(rule, length),),)), length < reach)

    def test_numbers_of_choices(self):
        chance = random.Random(8)
        for rule in some_delayed_rules(9, 9):
            for _ in range(10):
                shape = random_shape(rule, chance)
                choices = random_choices(rule, shape, chance)
                self.assertIs(are_choices(rule, shape, choices), True)
                self.assertIs(are_choices(rule, shape, choices[1:]), False)
                self.assertIs(are_choices(rule, shape, choices + choices[:1]), False)
                self.assertIs(are_choices(rule, shape, list(choices)), False)
                self.assertIs(are_choices(rule, shape, tuple([list(choice) for choice in choices])), False)
                self.assertIs(are_choices(rule, shape, choices[:-1] + (choices[-1] + ("", ""),)), False)

    def test_any_value(self):
        for value in NO_CHOICES:
            with self.subTest(value=value):
                self.assertIs(are_choices(MORSE, "A", value), False)
                self.assertIs(are_choices(MORSE, "aABAb", value), value == (("a",), ("b",)))


class ResultsOf(unittest.TestCase):
    def test_examples(self):
        self.assertEqual(results_of(MORSE, "aAB", (("b", ""), ("aba",))), ["aAaa"])
        self.assertEqual(results_of(MORSE, "aAB", (("a",), ("b",))), ["aab"])
        self.assertEqual(results_of(MORSE, "aAbA", (("aa",),)), ["aaabaa"])
        self.assertEqual(results_of(MORSE, "AA", (("a", ""),)), [])
        self.assertEqual(results_of(MORSE, "AA", (("a", "a"),)), [])
        self.assertEqual(results_of(MORSE, "AA", (("a", "b"),)), ["bAbAb"])
        self.assertEqual(results_of(FIBONACCI, "Aa", (("", ""),)), ["Aa", "Ab"])
        self.assertEqual(results_of(FIBONACCI, "bAa", (("", ""),)), ["aAa", "aAb"])
        # A block that begins with the ends of two images, and one that ends with the beginnings of three.
        rule = ("aab", "aba", "cab")
        self.assertEqual(results_of(rule, "abAa", (("", ""),)), ["aAa", "aAb", "cAa", "cAb"])
        self.assertEqual(results_of(rule, "A", (("ab", "ab"),)), ["aAb", "cAb"])

    def test_drawn_choices(self):
        chance = random.Random(10)
        numbers = []
        for rule in some_delayed_rules(11, 45):
            for _ in range(40):
                shape = random_shape(rule, chance)
                choices = random_choices(rule, shape, chance)
                found = results_of(rule, shape, choices)
                self.assertEqual(found, slow_results(rule, shape, choices), (rule, shape, choices))
                numbers.append(len(found))
        for number in (0, 1, 2, 3):
            self.assertIn(number, numbers)

    def test_images_put_together(self):
        chance = random.Random(12)
        for rule in some_delayed_rules(13, 27):
            size = len(rule[0])
            for _ in range(20):
                words = [random_word(chance, chance.randint(0, 3), letters_of_rule(rule)) for _ in range(3)]
                texts = [slow_image(rule, word) for word in words]
                cut = chance.randrange(size)
                end = chance.choice(rule)[cut:] if cut else ""
                cut = chance.randrange(size)
                beginning = chance.choice(rule)[:cut]
                shape = end + texts[0] + "X" + texts[1] + "X" + texts[2] + beginning
                found = results_of(rule, shape, (("", ""),))
                self.assertEqual(found, slow_results(rule, shape, (("", ""),)))
                inner = words[0] + "X" + words[1] + "X" + words[2]
                self.assertTrue([row for row in found if inner in row and len(row) <= len(inner) + 2], (shape, found))

    def test_choices_of_live_steps(self):
        for rule, shape in ((MORSE, "AAA"), (MORSE, "ABA"), (FIBONACCI, "aAbB"), (FOUR, "AA")):
            for choices, result in slow_live_steps(rule, shape)[:50]:
                self.assertIn(result, results_of(rule, shape, choices))

    def test_results_are_shapes(self):
        # What comes from these choices would have 61 letters or more, and so is no shape.
        self.assertEqual(results_of(MORSE, "A" * 60, (("a", "b"),)), [])
        self.assertEqual(results_of(MORSE, "A" * 30, (("a", "b"),)), [])
        self.assertEqual(results_of(MORSE, "A" * 29, (("a", "b"),)), ["bA" * 29 + "b"])
        self.assertEqual(results_of(MORSE, "A" * 60, (("", ""),)), ["A" * 60])

    def test_no_choices(self):
        for value in NO_CHOICES:
            with self.subTest(value=value):
                self.assertRaises(InvalidWay, results_of, MORSE, "aAa", value)
        for value in ((("a",),), (("a",), ("b",), ("a",)), [("a",), ("b",)], (("a",), ("aaa",)), (("a",), ("b", "ab"))):
            self.assertRaises(InvalidWay, results_of, MORSE, "AB", value)


class LiveSteps(unittest.TestCase):
    def check(self, rule, shape):
        expected = slow_live_steps(rule, shape)
        if len(expected) > 300:
            self.assertRaises(TooMany, live_steps, rule, shape)
        else:
            self.assertEqual(live_steps(rule, shape), expected, (rule, shape))
        return expected

    def test_examples(self):
        expected = [((("", ""),), "AAA"), ((("a", "b"),), "bAbAbAb"), ((("b", "a"),), "aAaAaAa")]
        self.assertEqual(live_steps(MORSE, "AAA"), expected)
        self.assertEqual(live_steps(MORSE, "aaaA"), [])
        self.assertIn(((("a",),), "aa"), live_steps(MORSE, "AA"))

    def test_drawn_shapes(self):
        chance = random.Random(14)
        numbers = []
        for rule in some_delayed_rules(15, 63):
            choices = len(slow_letter_choices(rule))
            most = max([many for many in (1, 2, 3) if choices ** many < 12000] + [1])
            for _ in range(6):
                numbers.append(len(self.check(rule, random_shape(rule, chance, 8, most))))
        self.assertIn(0, numbers)
        self.assertGreater(len([number for number in numbers if 0 < number <= 300]), 50)
        self.assertGreater(len([number for number in numbers if number > 300]), 5)

    def test_shapes_with_occurrences(self):
        chance = random.Random(16)
        for rule in some_delayed_rules(17, 36):
            shape = shape_in(rule, chance)
            if len(slow_letter_choices(rule)) ** len(capitals(shape)) < 12000:
                self.check(rule, shape)

    def test_results_of_steps(self):
        chance = random.Random(18)
        for rule in some_delayed_rules(19, 36):
            if len(slow_letter_choices(rule)) < 110:
                shape = random_shape(rule, chance, 8, 2)
                for _ in range(3):
                    results = [result for _, result in live_steps_or_none(rule, shape) if capitals(result)]
                    if results == []:
                        break
                    shape = chance.choice(results)
                    self.check(rule, shape)

    def test_300_steps_and_301(self):
        for many, rule, shape in (
            (300, ("ac", "ab", "cb"), "BCACCCA"), (300, ("ac", "bc", "ab"), "AaBCA"), (301, FIBONACCI, "ABCAB"),
            (301, MORSE, "aAbCbBa"), (300, ("ab", "ac", "bc"), "ACBBBC"), (300, ("aab", "aaa"), "BBCAAAB"),
        ):
            expected = slow_live_steps(rule, shape)
            self.assertEqual(len(expected), many)
            if many == 300:
                self.assertEqual(live_steps(rule, shape), expected)
            else:
                self.assertRaises(TooMany, live_steps, rule, shape)

    def test_words_put_in_stand_in_the_image(self):
        chance = random.Random(20)
        for rule in some_delayed_rules(21, 27):
            shape = random_shape(rule, chance, 6, 2)
            for choices, result in live_steps_or_none(rule, shape)[:40]:
                self.check_step(rule, shape, choices, result, chance)

    def check_step(self, rule, shape, choices, result, chance):
        if not capitals(result):
            self.assertEqual(result, slow_put_in(shape, choices))
            self.assertTrue(slow_is_factor(rule, result))
            return
        table = {letter: random_word(chance, chance.randint(1, 3), letters_of_rule(rule)) for letter in capitals(result)}
        above = "".join([table.get(letter, letter) for letter in result])
        words = {}
        for letter, choice in zip(capitals(shape), choices):
            inner = slow_image(rule, table[letter]) if len(choice) == 2 else ""
            words[letter] = choice[0] + inner + "".join(choice[1:])
        below = "".join([words.get(letter, letter) for letter in shape])
        first = slow_blocks(slow_put_in(shape, choices))[0]
        index = -len(first) % len(rule[0])
        self.assertEqual(slow_image(rule, above)[index:index + len(below)], below)

    def test_hardest(self):
        shapes = ["ABCABCAB", "ABACBCAB", "ABCCBAAB", "AABBCCAB", "BACBCAAB", "ABCACBCC", "CABACABA"]
        with within_seconds(self, 60):
            for rule in some_delayed_rules(22, 18):
                for shape in shapes:
                    live_steps_or_none(rule, shape)
            for rule, shape in product((MORSE, FIBONACCI), shapes * 20):
                live_steps_or_none(rule, shape)


def live_steps_or_none(rule, shape):
    try:
        return live_steps(rule, shape)
    except TooMany:
        return []


class Errors(unittest.TestCase):
    def calls(self, rule, shape):
        return [
            (is_dead, rule, shape), (are_choices, rule, shape, (("a",),)), (results_of, rule, shape, None),
            (live_steps, rule, shape),
        ]

    def test_no_rules(self):
        for value in NO_RULES:
            with self.subTest(value=value):
                self.assertRaises(InvalidRule, is_shape, value, "A")
                for call, *arguments in self.calls(value, "A"):
                    self.assertRaises(InvalidRule, call, *arguments)
        for value in SOME_NO_RULES:
            self.assertRaises(InvalidRule, is_shape, value, None)
            for call, *arguments in self.calls(value, ""):
                self.assertRaises(InvalidRule, call, *arguments)

    def test_no_delay(self):
        for rule in NO_DELAY:
            with self.subTest(rule=rule):
                self.assertRaises(NoDelay, is_shape, rule, "A")
                self.assertRaises(NoDelay, is_shape, rule, None)
                for shape in ("A", "", None, "abab"):
                    for call, *arguments in self.calls(rule, shape):
                        self.assertRaises(NoDelay, call, *arguments)

    def test_no_shapes(self):
        for value in NO_SHAPES:
            with self.subTest(value=value):
                for call, *arguments in self.calls(MORSE, value):
                    self.assertRaises(InvalidShape, call, *arguments)

    def test_classes(self):
        for error in (InvalidShape, InvalidWay, NoDelay, InvalidRule):
            self.assertFalse(issubclass(error, InvalidPattern))

    def test_arguments_and_results(self):
        first = live_steps(LATE, "AA")
        kept = list(first)
        first.clear()
        self.assertEqual(live_steps(LATE, "AA"), kept)
        found = results_of(FIBONACCI, "Aa", (("", ""),))
        found.append("A")
        self.assertEqual(results_of(FIBONACCI, "Aa", (("", ""),)), ["Aa", "Ab"])
