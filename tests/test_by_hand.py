"""Some rules whose words are known: what is said of them here was worked out by hand."""

import unittest

from surepatterns.avoiders import does_avoid
from surepatterns.cuts import cut_list, cuts_of, delay_of, short_words, two_places
from surepatterns.factors import factor_place, factors_of, is_factor
from surepatterns.far import far_occurrence, far_word
from surepatterns.records import judge
from surepatterns.rules import rule_letter, rule_start
from surepatterns.shapes import live_steps, results_of
from surepatterns.ways import closed_shapes, is_way, occurs, way_of
from tests.slow_rules import FIBONACCI, FOUR, LATE, MORSE, ONCE


class Smallest(unittest.TestCase):
    """a comes to ab, b to aa: the letter at place n is b exactly if n + 1 holds 2 an odd number of times."""

    def test_letters(self):
        self.assertEqual(rule_start(FIBONACCI, 16), "abaaabababaaabaa")
        for exponent in range(190):
            self.assertEqual(rule_letter(FIBONACCI, 2 ** exponent - 1), "ab"[exponent % 2])
            self.assertEqual(far_word(FIBONACCI, 3 * 2 ** (3 * exponent) - 1, 1), "ab"[3 * exponent % 2])

    def test_factors_and_cuts(self):
        self.assertEqual(factors_of(FIBONACCI, 2), ["aa", "ab", "ba"])
        self.assertEqual(factors_of(FIBONACCI, 3), ["aaa", "aab", "aba", "baa", "bab"])
        # aa is the image of b, and stands before each image of a that follows the image of b.
        self.assertEqual(cuts_of(FIBONACCI, "aa"), [0, 1])
        self.assertEqual(cuts_of(FIBONACCI, "ab"), [0])
        self.assertEqual(cuts_of(FIBONACCI, "ba"), [1])
        # aaa cannot begin inside of an image: bb would have to be a factor.
        self.assertEqual(cuts_of(FIBONACCI, "aaa"), [0])
        expected = [("aaa", 0), ("aab", 1), ("aba", 0), ("baa", 1), ("bab", 1)]
        self.assertEqual(cut_list(FIBONACCI, 3), expected)
        self.assertEqual(delay_of(FIBONACCI), 3)
        self.assertEqual(two_places(FIBONACCI, 2), ("aa", 2, 3))
        self.assertEqual(short_words(FIBONACCI), ["a", "aa", "ab", "b", "ba"])

    def test_places(self):
        self.assertEqual([factor_place(FIBONACCI, word) for word in ("b", "aa", "aaa", "baba", "bb")], [1, 2, 2, 5, None])

    def test_ways(self):
        self.assertEqual(way_of(FIBONACCI, "AAA"), [("AAA", (("a",),))])
        self.assertEqual(far_occurrence(FIBONACCI, "AAA", [("AAA", (("a",),))]), (2, (1,)))
        # The image of aaa is ababab.
        way = [("AAA", (("", ""),)), ("AAA", (("a",),))]
        self.assertEqual(far_occurrence(FIBONACCI, "AAA", way), (4, (2,)))
        # Letters one after the other: b, then the word ba, then b.
        self.assertEqual(far_occurrence(FIBONACCI, "AbA", [("AbA", (("a",),))]), (0, (1,)))
        self.assertEqual(closed_shapes(FIBONACCI, "bAbb"), ["bAbb"])

    def test_four_in_a_row(self):
        shapes = ["AAAA", "aAaAaAaAa", "aAaAaAaAb", "bAbAbAbAa", "bAbAbAbAb"]
        self.assertEqual(closed_shapes(FIBONACCI, "AAAA"), shapes)
        self.assertEqual(judge(("closed", FIBONACCI, "AAAA", shapes)), ("right",))
        self.assertIs(does_avoid(FIBONACCI, "AAAA"), True)


class Morse(unittest.TestCase):
    """a comes to ab, b to ba: the letter at place n is b exactly if n has an odd number of ones, written by twos."""

    def test_letters(self):
        for number in (0, 1, 7, 2 ** 60, 2 ** 60 - 1, 10 ** 60, 3 ** 120):
            self.assertEqual(rule_letter(MORSE, number), "ab"[bin(number).count("1") % 2])
        number = 10 ** 179 + 12345
        expected = "".join(["ab"[bin(number + at).count("1") % 2] for at in range(200)])
        self.assertEqual(far_word(MORSE, number, 200), expected)

    def test_cuts(self):
        # aba stands in the images of aa and bb, bab too; aab and abb have a letter twice, which no image has.
        self.assertEqual([cuts_of(MORSE, word) for word in ("aba", "bab", "aab", "abb")], [[0, 1], [0, 1], [1], [0]])
        self.assertEqual(delay_of(MORSE), 4)
        self.assertEqual([factor_place(MORSE, word) for word in ("aa", "bb", "aba", "bab")], [5, 1, 3, 2])

    def test_steps(self):
        # Between two capital letters the image of a word stands, so the end and the beginning of one letter.
        self.assertEqual(results_of(MORSE, "AA", (("b", "a"),)), ["aAaAa"])
        self.assertEqual(results_of(MORSE, "AA", (("b", "b"),)), [])
        self.assertEqual([choices for choices, _ in live_steps(MORSE, "AAA")], [(("", ""),), (("a", "b"),), (("b", "a"),)])

    def test_no_overlap(self):
        for shape in ("AAA", "ABABA", "aAaAa", "bAbAb"):
            self.assertIs(occurs(MORSE, shape), False)
        for shape in ("AA", "ABAB", "aAa", "AbbA"):
            self.assertIs(occurs(MORSE, shape), True)


class Four(unittest.TestCase):
    """a, b, c, d come to ab, ca, cd, ac: no square stands in the word."""

    def test_factors(self):
        self.assertEqual(rule_start(FOUR, 8), "abcacdab")
        self.assertEqual(factors_of(FOUR, 2), ["ab", "ac", "bc", "ca", "cd", "da"])
        self.assertEqual([cuts_of(FOUR, word) for word in ("ab", "bc", "ca", "ac")], [[0], [1], [0, 1], [0, 1]])
        self.assertEqual(delay_of(FOUR), 3)

    def test_squares(self):
        shapes = ["AA", "aAaAa", "aAaAd", "bAbAb", "bAbAc", "cAcAb", "cAcAc", "dAdAa", "dAdAd"]
        self.assertEqual(closed_shapes(FOUR, "AA"), shapes)
        self.assertIs(does_avoid(FOUR, "AA"), True)
        word = far_word(FOUR, 10 ** 50, 200)
        for size in range(1, 101):
            for start in range(200 - 2 * size + 1):
                self.assertNotEqual(word[start:start + size], word[start + size:start + 2 * size])


class Once(unittest.TestCase):
    """a, b, c come to ab, bc, cb: the letter a stands at place 0 alone."""

    def test_the_first_letter(self):
        self.assertEqual(rule_start(ONCE, 8), "abbcbccb")
        self.assertEqual(factor_place(ONCE, "a"), 0)
        self.assertEqual(cuts_of(ONCE, "a"), [0])
        for word in ("aa", "ba", "ca"):
            self.assertIs(is_factor(ONCE, word), False)
        for place in (1, 10 ** 30, 10 ** 200):
            self.assertNotIn("a", far_word(ONCE, place, 200))

    def test_shapes(self):
        # The word before a could only go back to words before a again.
        self.assertEqual(closed_shapes(ONCE, "Aa"), ["Aa", "aAa", "bAa", "cAa"])
        self.assertEqual(closed_shapes(ONCE, "aAa"), ["aAa"])
        self.assertEqual(far_occurrence(ONCE, "aAA", [("aAA", (("b",),))]), (0, (1,)))
        # Behind the first letter b and c come as a and b do in the rule (ab, ba).
        self.assertIs(occurs(ONCE, "AAA"), False)
        self.assertIs(occurs(ONCE, "bAA"), True)
        self.assertEqual(delay_of(ONCE), 4)


class Late(unittest.TestCase):
    """A rule with the delay 9; dc comes first at 12543: 12543 = 4 * 3135 + 3, and so on back to place 0."""

    def test_places(self):
        places = {"ab": 0, "bc": 2, "db": 12, "cc": 48, "dd": 195, "ac": 783, "cd": 3135, "dc": 12543}
        self.assertEqual({word: factor_place(LATE, word) for word in places}, places)
        self.assertEqual(far_word(LATE, 12543, 8), "dccaabca")
        self.assertEqual(delay_of(LATE), 9)
        self.assertEqual(two_places(LATE, 8), ("bcabbcab", 4, 378))
        self.assertIsNone(two_places(LATE, 9))

    def test_ways(self):
        self.assertEqual(far_occurrence(LATE, "dcA", [("dcA", (("c",),))]), (12543, (1,)))
        self.assertIs(is_way(LATE, "dcA", [("dcA", (("a",),))]), False)
        self.assertEqual(judge(("far", LATE, "dcA", 12543, ("caabca",))), ("right",))
        self.assertEqual(judge(("uncut", LATE, "bcabbcab", 4, 378)), ("wrong", 2) if (4 - 378) % 4 == 0 else ("right",))
