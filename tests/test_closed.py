import random
import unittest
from copy import deepcopy
from itertools import chain as joined_rows
from itertools import combinations

from surepatterns.chains import is_chain, is_sure, shortest_chain
from surepatterns.closed import closed_family, is_closed_family, reachable_sets
from surepatterns.errors import InvalidPattern
from tests.helper import (
    NESTED_LIST, NO_PATTERNS, NO_STRINGS, first_letters, kept, letter_sets, normal_patterns, random_chain,
    random_pattern, renamed, samples, slow_is_family, slow_reachable_sets, slow_shortest_chain, within_seconds, without,
)


def larger_family(pattern, chance):
    """A closed family with more than the reachable sets, or just these: what further sets lead to, too."""
    family = [some for some in slow_reachable_sets(pattern) if some]
    for some in letter_sets(pattern):
        grown = [further for further in slow_reachable_sets(kept(pattern, some)) if further not in family]
        if "" not in grown and chance.random() < 0.5:
            family += grown
    chance.shuffle(family)
    return family


class Reachable(unittest.TestCase):
    def check(self, pattern):
        expected = slow_reachable_sets(pattern)
        filled = [some for some in expected if some]
        self.assertEqual(reachable_sets(pattern), filled, pattern)
        self.assertEqual(closed_family(pattern), None if "" in expected else filled, pattern)
        return "" in expected

    def test_examples(self):
        self.assertEqual(reachable_sets("AAB"), ["A", "AB"])
        self.assertEqual(closed_family("AAB"), ["A", "AB"])
        self.assertEqual(reachable_sets("A"), ["A"])
        self.assertIsNone(closed_family("A"))
        self.assertEqual(closed_family("AA"), ["A"])

    def test_short_patterns(self):
        for length in range(1, 7):
            for pattern in normal_patterns(length, 6):
                self.check(pattern)

    def test_patterns_of_every_size(self):
        sure = [self.check(pattern) for pattern in samples(1, 120)]
        self.assertGreater(sure.count(True), 80)
        self.assertGreater(sure.count(False), 60)

    def test_seven_letters(self):
        chance = random.Random(2)
        for pattern in ("ABCDEFG", "GFEDCBA", "ABCDEFGG", "ABACADAEAFAGA", "ABCDEFGABCDEFG"):
            self.check(pattern)
        for _ in range(30):
            self.check(random_pattern(chance, chance.randint(7, 12), 7))

    def test_order(self):
        self.assertEqual(reachable_sets("ABC"), ["A", "B", "C", "AB", "AC", "BC", "ABC"])
        self.assertEqual(reachable_sets("CBA"), ["A", "B", "C", "AB", "AC", "BC", "ABC"])
        for pattern in samples(3, 40):
            found = reachable_sets(pattern)
            self.assertEqual(found, sorted(found, key=lambda some: (len(some), some)))
            self.assertEqual(found[-1], "".join(sorted(first_letters(pattern))))

    def test_renamed_patterns(self):
        chance = random.Random(4)
        for pattern in samples(5, 60):
            other, table = renamed(pattern, chance)
            expected = ["".join(sorted([table[letter] for letter in some])) for some in reachable_sets(pattern)]
            self.assertEqual(reachable_sets(other), sorted(expected, key=lambda some: (len(some), some)))
            self.assertEqual(closed_family(other) is None, closed_family(pattern) is None)

    def test_results_are_new(self):
        for call in (reachable_sets, closed_family):
            for pattern in ("AAB", "AA", "ABCDEFGG"):
                result = call(pattern)
                again = list(result)
                result.append("more")
                result.reverse()
                self.assertEqual(call(pattern), again)

    def test_no_patterns(self):
        for value in NO_PATTERNS:
            with self.subTest(value=value):
                self.assertRaises(InvalidPattern, reachable_sets, value)
                self.assertRaises(InvalidPattern, closed_family, value)


class IsFamily(unittest.TestCase):
    def test_examples(self):
        self.assertIs(is_closed_family("AAB", ["AB"]), False)
        self.assertIs(is_closed_family("AAB", ["A", "AB"]), True)
        self.assertIs(is_closed_family("AAB", ["AB", "A"]), True)

    def test_all_lists_for_few_letters(self):
        for length in range(1, 6):
            for pattern in normal_patterns(length, 3):
                sets = letter_sets(pattern) + [""]
                for size in range(len(sets) + 1):
                    for rows in combinations(sets, size):
                        self.assertIs(is_closed_family(pattern, list(rows)), slow_is_family(pattern, list(rows)))

    def test_families_and_changed_ones(self):
        chance = random.Random(6)
        larger = 0
        for pattern in samples(7, 120):
            if is_sure(pattern):
                continue
            least = closed_family(pattern)
            family = larger_family(pattern, chance)
            larger += len(family) > len(least)
            self.check_family(pattern, least, family, chance)
        self.assertGreater(larger, 20)

    def check_family(self, pattern, least, family, chance):
        everything = least[-1]
        for right in (least, least[::-1], family, sorted(family)):
            self.assertIs(is_closed_family(pattern, right), True, (pattern, right))
            self.assertIs(is_closed_family(pattern, tuple(right)), False)
            self.assertIs(is_closed_family(pattern, right + [chance.choice(right)]), False)
            self.assertIs(is_closed_family(pattern, right + [""]), False)
            self.assertIs(is_closed_family(pattern, right + ["a"]), False)
            self.assertIs(is_closed_family(pattern, [some for some in right if some != everything]), False)
        for some in least:
            self.assertIs(is_closed_family(pattern, [other for other in family if other != some]), False)
        for _ in range(5):
            some = chance.choice(letter_sets(pattern))
            changed = [other for other in family if other != some] if some in family else family + [some]
            self.assertIs(is_closed_family(pattern, changed), slow_is_family(pattern, changed), (pattern, changed))

    def test_drawn_lists(self):
        chance = random.Random(8)
        for pattern in samples(9, 100):
            sets = letter_sets(pattern)
            value = chance.sample(sets, chance.randint(0, len(sets))) + [sets[-1]] * chance.randint(0, 1)
            self.assertIs(is_closed_family(pattern, value), slow_is_family(pattern, value), (pattern, value))

    def test_any_value(self):
        values = [
            [], "", "A", "AB", ["A"], ["AB"], ["B", "AB"], ["A", "AB", "AB"], ["A", "A", "AB"], ["", "A", "AB"],
            ["A", "AB", "C"], ["A", "AB", "BA"], ["A", "BA"], ["A", "AAB"], ["A", "AB", 1], ["A", "AB", None],
            ["A", "AB", True], ["A", "AB", ["A"]], ["A", "AB", ("A",)], [["A", "AB"]], ("A", "AB"), (["A", "AB"],),
            ["a", "ab"], ["A", "AB "], [["A"], ["A", "B"]], ["A", "AB", []], ["A", "AB", NESTED_LIST],
            {"A": 1, "AB": 2}, ["A", "B", "AB", "ABC"], "A,AB", ["A,AB"],
        ]
        for value in values + NO_STRINGS:
            with self.subTest(value=value):
                before = deepcopy(value)
                self.assertIs(is_closed_family("AAB", value), False)
                self.assertEqual(value, before)

    def test_a_family_with_more(self):
        self.assertIs(is_closed_family("ABAB", ["AB"]), False)
        self.assertIs(is_closed_family("ABAB", ["AB", "A"]), False)
        self.assertIs(is_closed_family("ABAB", ["B", "AB", "A"]), True)
        self.assertIs(is_closed_family("AABB", ["AB"]), True)
        self.assertIs(is_closed_family("AABB", ["AB", "A", "B"]), True)
        self.assertIs(is_closed_family("AABB", ["A", "B"]), False)

    def test_argument_stays(self):
        for value in (["A", "AB"], ["AB", "A"], ["AB", ["A"]], ["AB", "AB"]):
            before = deepcopy(value)
            is_closed_family("AAB", value)
            self.assertEqual(value, before)

    def test_no_patterns(self):
        for value in NO_PATTERNS:
            with self.subTest(value=value):
                self.assertRaises(InvalidPattern, is_closed_family, value, ["A"])
                self.assertRaises(InvalidPattern, is_closed_family, value, None)


class MainPromise(unittest.TestCase):
    """Of point 3: exactly one of a chain and a closed family exists."""

    def check(self, pattern):
        chain = shortest_chain(pattern)
        family = closed_family(pattern)
        self.assertEqual(chain is None, family is not None, pattern)
        if chain is None:
            self.assertIs(is_closed_family(pattern, family), True, pattern)
        else:
            self.assertIs(is_chain(pattern, chain), True, pattern)
            self.assertIs(is_closed_family(pattern, reachable_sets(pattern)), False, pattern)

    def test_short_patterns(self):
        for length in range(1, 8):
            for pattern in normal_patterns(length, 7):
                self.check(pattern)

    def test_patterns_of_every_size(self):
        for pattern in samples(10, 200):
            self.check(pattern)

    def test_chains_lead_through_reachable_sets(self):
        chance = random.Random(11)
        for pattern in samples(12, 60):
            chain = random_chain(pattern, chance)
            if chain is not None:
                reachable = reachable_sets(pattern) + [""]
                for many in range(len(chain) + 1):
                    rest = without(pattern, "".join(chain[:many]))
                    self.assertIn("".join(sorted(set(rest))), reachable)

    def test_no_list_is_a_closed_family_of_a_sure_pattern(self):
        for length in range(1, 7):
            for pattern in normal_patterns(length, 3):
                if slow_shortest_chain(pattern) is not None:
                    sets = letter_sets(pattern)
                    sizes = range(len(sets) + 1)
                    for rows in joined_rows.from_iterable([combinations(sets, size) for size in sizes]):
                        self.assertIs(is_closed_family(pattern, list(rows)), False, (pattern, rows))

    def test_families_contain_the_reachable_sets(self):
        chance = random.Random(13)
        for pattern in samples(14, 60):
            if not is_sure(pattern):
                family = larger_family(pattern, chance)
                self.assertIs(is_closed_family(pattern, family), True)
                self.assertLessEqual(set(reachable_sets(pattern)), set(family))

    def test_hardest(self):
        chance = random.Random(15)
        rows = [random_pattern(chance, 20, 7) for _ in range(60)]
        rows += ["ABCDEFG", "ABCDEFGG", "AABCDEFG", "ABCDEFGABCDEFG", "ABCDEFGFEDCBA", "AB" * 10, "A" * 20]
        with within_seconds(self, 20):
            for pattern in rows:
                self.check(pattern)
                self.assertIn("".join(sorted(set(pattern))), reachable_sets(pattern))
