import random
import unittest
from functools import lru_cache

from surepatterns.errors import TooMany
from surepatterns.shapes import live_steps
from surepatterns.ways import are_closed_shapes, closed_shapes, is_way, occurs, way_of
from surepatterns.wrongs import InvalidRule, InvalidShape, NoDelay
from tests.helper import NESTED_LIST, NESTED_TUPLE, NO_STRINGS, within_seconds
from tests.slow_rules import (
    FIBONACCI, FOUR, LATE, MORSE, NO_DELAY, NO_RULES, ONCE, SOME_NO_RULES, capitals, letters_of_rule,
    random_delayed_rule, slow_is_factor, slow_is_way, slow_letter_choices, slow_levels, slow_live_steps,
    slow_occurs_in, slow_put_in, slow_start,
)
from tests.test_shapes import NO_SHAPES, random_shape, shape_in, some_delayed_rules

CUBE = ["AAA", "aAaAaAa", "bAbAbAb"]


def found_or_many(call, rule, shape):
    try:
        return call(rule, shape)
    except TooMany:
        return "TooMany"


@lru_cache(None)
def kept_steps(rule, shape):
    return slow_live_steps(rule, shape)


class Levels(unittest.TestCase):
    """Shapes whose levels can be found by trying all choices."""

    def check(self, rule, shape):
        levels, number = slow_levels(rule, shape, kept_steps)
        every = sorted([each for level in levels for each in level])
        if len(every) > 200:
            for call in (occurs, way_of, closed_shapes):
                self.assertRaises(TooMany, call, rule, shape)
            return "many"
        way = way_of(rule, shape)
        self.assertIs(occurs(rule, shape), number is not None)
        self.assertEqual(way_of(rule, shape), way)
        if number is None:
            self.assertIsNone(way)
            self.assertEqual(closed_shapes(rule, shape), every)
            return len(every)
        self.assertIsNone(closed_shapes(rule, shape))
        self.assertEqual(len(way), number + 1)
        self.assertTrue(slow_is_way(rule, shape, way), (rule, shape, way))
        for each, _ in way:
            self.assertIn(each, every)
        return "way"

    def test_drawn_shapes(self):
        chance = random.Random(1)
        answers = []
        for rule in some_delayed_rules(2, 63):
            choices = len(slow_letter_choices(rule))
            for _ in range(3):
                shape = random_shape(rule, chance, 8, 2 if choices < 40 else 1)
                answers.append(self.check(rule, shape))
        self.assertGreater(answers.count("way"), 60)
        self.assertGreater(len([answer for answer in answers if isinstance(answer, int) and answer > 1]), 20)

    def test_small_rules(self):
        chance = random.Random(3)
        for rule in (MORSE, FIBONACCI, ("ac", "bc", "ab"), ("ab", "cb", "bb")):
            for _ in range(8):
                self.check(rule, random_shape(rule, chance, 7, 2))
            for shape in ("ABA", "ABAB", "AABA", "aAbAa", "abAba", "AAAA", "ABBA", "AAaB"):
                self.check(rule, shape)

    def test_three_capital_letters(self):
        for shape in ("ABCABC", "CBCAAB", "ABACBC", "aAbBaC"):
            self.check(FIBONACCI, shape)


class WayOf(unittest.TestCase):
    def test_examples(self):
        self.assertIs(occurs(MORSE, "AA"), True)
        self.assertIs(occurs(MORSE, "AAA"), False)
        self.assertEqual(closed_shapes(MORSE, "AAA"), CUBE)
        expected = ["AA", "aAaAa", "aAaAd", "bAbAb", "bAbAc", "cAcAb", "cAcAc", "dAdAa", "dAdAd"]
        self.assertEqual(closed_shapes(FOUR, "AA"), expected)
        self.assertIsNone(closed_shapes(MORSE, "AA"))
        self.assertIsNone(way_of(FOUR, "AA"))
        self.assertEqual(closed_shapes(MORSE, "aaaA"), ["aaaA"])
        self.assertIs(occurs(ONCE, "AaB"), False)
        self.assertIn("Aab", closed_shapes(ONCE, "AaB"))
        self.assertEqual(way_of(ONCE, "aA")[0][0], "aA")

    def test_drawn_shapes(self):
        chance = random.Random(4)
        answers = []
        for rule in some_delayed_rules(5, 90):
            for _ in range(6):
                shape = random_shape(rule, chance)
                answers.append(self.check(rule, shape))
        self.assertGreater(answers.count("way"), 100)
        self.assertGreater(answers.count("closed"), 100)

    def check(self, rule, shape):
        way = found_or_many(way_of, rule, shape)
        if way == "TooMany":
            self.assertRaises(TooMany, occurs, rule, shape)
            self.assertRaises(TooMany, closed_shapes, rule, shape)
            return way
        shapes = closed_shapes(rule, shape)
        self.assertIs(occurs(rule, shape), way is not None)
        self.assertIs(shapes is None, way is not None)
        if way is None:
            self.assertEqual(shapes, sorted(set(shapes)))
            self.assertIn(shape, shapes)
            self.assertLessEqual(len(shapes), 200)
            self.assertIs(are_closed_shapes(rule, shapes), True)
            self.assertIs(slow_occurs_in(shape, slow_start(rule, 80)), False)
            return "closed"
        self.assertTrue(slow_is_way(rule, shape, way), (rule, shape, way))
        self.assertIs(is_way(rule, shape, way), True)
        return "way"

    def test_shapes_with_occurrences(self):
        chance = random.Random(6)
        for rule in some_delayed_rules(7, 90):
            shape = shape_in(rule, chance)
            self.assertIn(self.check(rule, shape), ("way", "TooMany"), (rule, shape))

    def test_shapes_that_occur_in_the_first_letters(self):
        chance = random.Random(8)
        for rule in some_delayed_rules(9, 45):
            for _ in range(6):
                shape = random_shape(rule, chance)
                if slow_occurs_in(shape, slow_start(rule, 40)):
                    self.assertIn(found_or_many(occurs, rule, shape), (True, "TooMany"), (rule, shape))

    def test_pieces_of_shapes_that_occur(self):
        chance = random.Random(10)
        for rule in some_delayed_rules(11, 45):
            shape = shape_in(rule, chance)
            start, end = sorted(chance.sample(range(len(shape) + 1), 2))
            if capitals(shape[start:end]):
                self.assertIn(found_or_many(occurs, rule, shape[start:end]), (True, "TooMany"))

    def test_dead_shapes(self):
        chance = random.Random(12)
        for rule in some_delayed_rules(13, 27):
            for _ in range(4):
                block = "".join([chance.choice(letters_of_rule(rule)) for _ in range(7)])
                if not slow_is_factor(rule, block):
                    for shape in ("A" + block, block + "A"):
                        self.assertEqual(closed_shapes(rule, shape), [shape])
                        self.assertIs(occurs(rule, shape), False)

    def test_more_than_300_live_steps(self):
        for rule, shape in ((MORSE, "ABC"), (MORSE, "BAC"), (FOUR, "ABC"), (LATE, "AB")):
            self.assertRaises(TooMany, live_steps, rule, shape)
            self.assertIs(occurs(rule, shape), True)
            self.assertEqual(len(way_of(rule, shape)), 1)

    def test_200_shapes_and_201(self):
        for many, number, rule, shape in (
            (200, None, ("ab", "aa"), "bCBBBBbA"), (201, None, ("ab", "ba"), "CBAACBAA"),
            (200, None, ("ac", "cb", "bc"), "CBCCCA"), (201, None, ("ab", "bc", "ca"), "bcABABA"),
            (200, None, ("ad", "cd", "dc", "ab"), "AAAC"), (201, None, ("ac", "ba", "ab"), "AAAACBCB"),
            (200, 1, ("ac", "aa", "ab"), "CCBCABAC"), (201, 3, ("ac", "ab", "ad", "db"), "CBBC"),
            (200, 1, ("ac", "dc", "da", "ba"), "CACBABB"), (201, 4, ("ad", "db", "aa", "bc"), "BCABBCCA"),
        ):
            levels, found = slow_levels(rule, shape, live_steps)
            self.assertEqual((sum([len(level) for level in levels]), found), (many, number))
            if many == 201:
                for call in (occurs, way_of, closed_shapes):
                    self.assertRaises(TooMany, call, rule, shape)
            elif number is None:
                self.assertEqual(closed_shapes(rule, shape), sorted([each for level in levels for each in level]))
            else:
                self.assertEqual(len(way_of(rule, shape)), number + 1)

    def test_hardest(self):
        shapes = ["ABCABCAB", "ABACBCAB", "ABCCBAAB", "AABBCCAB", "BACBCAAB", "ABCACBCC", "CABACABA", "AAAABBBB"]
        with within_seconds(self, 90):
            for rule in some_delayed_rules(14, 18):
                for shape in shapes:
                    found_or_many(closed_shapes, rule, shape)


class IsWay(unittest.TestCase):
    def check(self, rule, shape, value):
        expected = slow_is_way(rule, shape, value)
        self.assertIs(is_way(rule, shape, value), bool(expected), (rule, shape, value))
        return bool(expected)

    def test_examples(self):
        self.assertIs(is_way(MORSE, "AA", [("AA", (("a",),))]), True)
        self.assertIs(is_way(MORSE, "AA", [("AA", (("abb",),))]), False)
        self.assertIs(is_way(MORSE, "AA", [("AA", (("", ""),)), ("AA", (("a",),))]), True)
        self.assertIs(is_way(MORSE, "AA", [("AA", (("", ""),))]), False)
        self.assertIs(is_way(MORSE, "AA", [("AA", (("a",),)), ("aa", ())]), False)
        self.assertIs(is_way(MORSE, "AA", [("AA", (("a",),)), ("AA", (("a",),))]), False)

    def test_loops_put_ahead(self):
        way = [("AA", (("a",),))]
        for _ in range(99):
            way.insert(0, ("AA", (("", ""),)))
            self.assertIs(is_way(MORSE, "AA", way), True)
        way[50] = ("AA", (("a", ""),))
        self.assertIs(is_way(MORSE, "AA", way), False)

    def test_told_ways_and_values_near_them(self):
        chance = random.Random(15)
        answers = []
        for rule in some_delayed_rules(16, 63):
            for shape in (random_shape(rule, chance), shape_in(rule, chance)):
                way = found_or_many(way_of, rule, shape)
                if isinstance(way, list):
                    answers += self.check_near(rule, shape, way, chance)
        self.assertGreater(answers.count(True), 10)
        self.assertGreater(answers.count(False), 100)

    def check_near(self, rule, shape, way, chance):
        at = chance.randrange(len(way))
        each, choices = way[at]
        other = tuple([chance.choice(slow_letter_choices(rule)) for _ in choices])
        rows = [
            way[:at] + way[at + 1:], way[:at + 1] + way[at:], way[::-1], way + way, [],
            way[:at] + [(each, other)] + way[at + 1:], way[:at] + [("X" + each, choices)] + way[at + 1:],
            way[:at] + [(slow_put_in(each, other), choices)] + way[at + 1:],
            way + [(slow_put_in(way[-1][0], way[-1][1]), ())],
        ]
        answers = [self.check(rule, shape, row) for row in rows]
        for value in (tuple(way), [list(row) for row in way], [way], [row + (None,) for row in way], way + [None]):
            self.assertIs(is_way(rule, shape, value), False)
        changed = (each, list(choices))
        self.assertIs(is_way(rule, shape, way[:at] + [changed] + way[at + 1:]), False)
        self.assertIs(is_way(rule, "A" + shape, way) and len(shape) < 8, False)
        return answers

    def test_longer_ways(self):
        chance = random.Random(17)
        longer = 0
        for rule in some_delayed_rules(18, 36):
            shape = shape_in(rule, chance, 5)
            for choices, result in steps_or_none(rule, shape)[:40]:
                onward = found_or_many(way_of, rule, result) if capitals(result) else None
                if isinstance(onward, list):
                    self.assertIs(self.check(rule, shape, [(shape, choices)] + onward), True)
                    longer += 1
        self.assertGreater(longer, 30)

    def test_any_value(self):
        values = NO_STRINGS + ["", "AA", [("AA",)], [("AA", (("a",),), None)], [["AA", (("a",),)]], [NESTED_TUPLE]]
        values += [(("AA", (("a",),)),), [("AA", [("a",)])], [("AA", (["a"],))], [("AA", "a")], [(None, None)], NESTED_LIST]
        values += [[("AB", (("a",),))], [(["AA"], (("a",),))], [("AA", (("a",), ("a",)))], [(("AA",), (("a",),))], {}]
        for value in values:
            with self.subTest(value=value):
                self.assertIs(is_way(MORSE, "AA", value), False)


def steps_or_none(rule, shape):
    try:
        return live_steps(rule, shape)
    except TooMany:
        return []


class AreClosedShapes(unittest.TestCase):
    def check(self, rule, shapes):
        """By trying all choices."""
        expected = all([result in shapes for shape in shapes for _, result in kept_steps(rule, shape)])
        self.assertIs(are_closed_shapes(rule, shapes), expected, (rule, shapes))
        return expected

    def test_examples(self):
        self.assertIs(are_closed_shapes(MORSE, CUBE), True)
        self.assertIs(are_closed_shapes(MORSE, CUBE[::-1]), True)
        self.assertIs(are_closed_shapes(MORSE, CUBE + CUBE), True)
        for at in (0, 1, 2):
            # Each of the others leads back to itself alone.
            self.assertIs(are_closed_shapes(MORSE, CUBE[:at] + CUBE[at + 1:]), at == 0)
        self.assertIs(are_closed_shapes(MORSE, ["AA"]), False)
        self.assertIs(are_closed_shapes(MORSE, ["AAA", "aAaAaAa", "bAbAbAb", "AA"]), False)
        self.assertIs(are_closed_shapes(MORSE, ["aaaA"]), True)
        self.assertIs(are_closed_shapes(MORSE, []), True)

    def test_told_lists(self):
        chance = random.Random(19)
        answers = []
        for rule in some_delayed_rules(20, 63):
            choices = len(slow_letter_choices(rule))
            shape = random_shape(rule, chance, 8, 2 if choices < 40 else 1)
            shapes = found_or_many(closed_shapes, rule, shape)
            if isinstance(shapes, list) and len(shapes) < 40:
                answers += self.check_near(rule, shapes, chance)
        self.assertGreater(answers.count(False), 30)
        self.assertGreater(answers.count(True), 30)

    def check_near(self, rule, shapes, chance):
        turned = list(shapes)
        chance.shuffle(turned)
        self.assertIs(self.check(rule, turned), True)
        self.assertIs(self.check(rule, turned + turned[:1]), True)
        at = chance.randrange(len(shapes))
        rows = [turned[:at] + turned[at + 1:], turned + ["A"], turned + ["XX"], turned[:1], turned[:2]]
        for value in (tuple(shapes), [shapes], shapes + [None], shapes + ["a"], [tuple(shapes)], shapes + ["A" * 61]):
            self.assertIs(are_closed_shapes(rule, value), False)
        return [self.check(rule, row) for row in rows]

    def test_first_levels(self):
        chance = random.Random(21)
        for rule in (MORSE, FIBONACCI, ("ac", "bc", "ab")):
            for shape in ("AAA", "AAAA", "ABAB", "AABAA", random_shape(rule, chance, 6, 2)):
                levels, number = slow_levels(rule, shape, kept_steps)
                shapes = []
                for at, level in enumerate(levels):
                    shapes += level
                    self.assertIs(are_closed_shapes(rule, shapes), number is None and at == len(levels) - 1)

    def test_lists_of_long_lists(self):
        chance = random.Random(22)
        for rule in some_delayed_rules(23, 45):
            shapes = found_or_many(closed_shapes, rule, random_shape(rule, chance))
            if isinstance(shapes, list):
                self.assertIs(are_closed_shapes(rule, shapes), True)
                if len(shapes) > 1:
                    ahead = [result for each in shapes for _, result in steps_or_none(rule, each) if result != each]
                    if ahead:
                        left_out = chance.choice(ahead)
                        self.assertIs(are_closed_shapes(rule, [each for each in shapes if each != left_out]), False)

    def test_more_than_300_live_steps(self):
        shape = "ABC"
        self.assertRaises(TooMany, live_steps, MORSE, shape)
        self.assertIs(are_closed_shapes(MORSE, [shape]), False)
        for rule, shape, many in (
            (("aab", "bab"), "AAABAC", 171), (("abc", "aba", "cab"), "AAAC", 109), (("aca", "acb", "bba"), "ABABAB", 180),
        ):
            shapes = closed_shapes(rule, shape)
            self.assertEqual(len(shapes), many)
            self.assertRaises(TooMany, live_steps, rule, shape)
            self.assertIs(are_closed_shapes(rule, shapes), True)
            self.assertIs(are_closed_shapes(rule, [each for each in shapes if each != shapes[7]]), shapes[7] == shape)

    def test_any_value(self):
        for value in NO_STRINGS + ["", "AAA", tuple(CUBE), [CUBE], NESTED_LIST, NESTED_TUPLE, {"AAA": True}]:
            with self.subTest(value=value):
                self.assertIs(are_closed_shapes(MORSE, value), value == [])
        for value in NO_SHAPES:
            with self.subTest(value=value):
                self.assertIs(are_closed_shapes(MORSE, CUBE + [value]), False)
                self.assertIs(are_closed_shapes(MORSE, [value] + CUBE), False)


class Errors(unittest.TestCase):
    def test_no_rules(self):
        for value in NO_RULES:
            with self.subTest(value=value):
                for call in (occurs, way_of, closed_shapes):
                    self.assertRaises(InvalidRule, call, value, "A")
                self.assertRaises(InvalidRule, is_way, value, "A", [])
                self.assertRaises(InvalidRule, are_closed_shapes, value, [])
        for value in SOME_NO_RULES:
            for call in (occurs, way_of, closed_shapes):
                self.assertRaises(InvalidRule, call, value, "a")
            self.assertRaises(InvalidRule, is_way, value, None, None)

    def test_no_delay(self):
        for rule in NO_DELAY:
            for shape in ("A", "", None, "ABC"):
                for call in (occurs, way_of, closed_shapes):
                    self.assertRaises(NoDelay, call, rule, shape)
                self.assertRaises(NoDelay, is_way, rule, shape, None)
            self.assertRaises(NoDelay, are_closed_shapes, rule, [])

    def test_no_shapes(self):
        for value in NO_SHAPES:
            with self.subTest(value=value):
                for call in (occurs, way_of, closed_shapes):
                    self.assertRaises(InvalidShape, call, MORSE, value)
                self.assertRaises(InvalidShape, is_way, MORSE, value, [])
                self.assertRaises(InvalidShape, is_way, MORSE, value, None)

    def test_arguments_and_results(self):
        way = way_of(MORSE, "AbAb")
        kept = list(way)
        is_way(MORSE, "AbAb", way)
        self.assertEqual(way, kept)
        way.clear()
        self.assertEqual(way_of(MORSE, "AbAb"), kept)
        shapes = closed_shapes(MORSE, "AAA")
        are_closed_shapes(MORSE, shapes)
        self.assertEqual(shapes, CUBE)
        shapes.clear()
        self.assertEqual(closed_shapes(MORSE, "AAA"), CUBE)
