"""What the functions of several stages say together."""

import random
import unittest
from copy import deepcopy

from surepatterns.avoiders import does_avoid, first_avoider, rules_of
from surepatterns.avoiding import avoiding_words, least_avoiding
from surepatterns.book import Book
from surepatterns.chains import index_of, is_chain, shortest_chain
from surepatterns.checker import check
from surepatterns.closed import closed_family, is_closed_family, reachable_sets
from surepatterns.cuts import cut_list, cuts_of, delay_of, short_words, two_places
from surepatterns.embedding import occurrence_by_chain, occurrence_in_standard
from surepatterns.factors import factor_place, factors_of
from surepatterns.far import far_occurrence, far_word
from surepatterns.joins import free_sets, joined
from surepatterns.lengths import sure_length, sure_occurrence
from surepatterns.occurrences import first_occurrence, meets, occurrences_at
from surepatterns.order import contains, sure_patterns
from surepatterns.patterns import value_of
from surepatterns.records import judge
from surepatterns.rules import image_of, rule_start
from surepatterns.shapes import live_steps, results_of
from surepatterns.standard import find_in_standard, standard_word
from surepatterns.ways import closed_shapes, occurs, way_of
from surepatterns.workspace import Workspace
from tests.helper import (
    first_letters, grown_pattern, normal_patterns, random_chain, random_pattern, random_word, samples,
)
from tests.test_avoiders import avoidance
from tests.test_shapes import some_delayed_rules

RIGHT = ("right",)


def turned(pattern, words):
    """The reversed pattern's assignment: the reversed words in the order of its letters."""
    table = {letter: word[::-1] for letter, word in zip(first_letters(pattern), words)}
    return tuple([table[letter] for letter in first_letters(pattern[::-1])])


class Certificates(unittest.TestCase):
    def test_each_pattern_has_one(self):
        rows = samples(1, 150) + [pattern for length in range(1, 7) for pattern in normal_patterns(length, 6)]
        for pattern in rows:
            chain = shortest_chain(pattern)
            family = closed_family(pattern)
            if chain is None:
                self.assertEqual(check(("closed", pattern, family)), RIGHT)
                self.assertEqual(check(("chain", pattern, family)), ("wrong", 0))
            else:
                self.assertIsNone(family)
                self.assertEqual(check(("chain", pattern, chain)), RIGHT)
                self.assertEqual(check(("closed", pattern, reachable_sets(pattern))), ("wrong", 0))

    def test_occurrences_in_standard_words(self):
        chance = random.Random(2)
        for _ in range(60):
            pattern = grown_pattern(chance, 20)
            number = index_of(pattern)
            start, end, words = occurrence_in_standard(pattern)
            for later in range(number, 11):
                self.assertEqual(check(("standard", pattern, later, start, words)), RIGHT)
            value = standard_word(number)[start:end]
            self.assertEqual(check(("standard", pattern, number - 1, start, words)), ("wrong", 1))
            self.assertNotIn(value, standard_word(number - 1))
            for moved in (start + 1, start - 1):
                expected = ("wrong", 1) if moved >= 0 else ("wrong", 0)
                self.assertEqual(check(("standard", pattern, number, moved, words)), expected)
            self.check_changed(pattern, number, start, words)
            if end - start <= 200:
                self.assertEqual(value_of(pattern, words), value)
                self.assertLessEqual(find_in_standard(value), start)

    def check_changed(self, pattern, number, start, words):
        for at, word in enumerate(words):
            for other in ("z" + word[1:], word[:-1] + "z"):
                changed = words[:at] + (other,) + words[at + 1:]
                self.assertEqual(check(("standard", pattern, number, start, changed)), ("wrong", 1))

    def test_reversed_occurrences(self):
        chance = random.Random(3)
        for _ in range(60):
            pattern = grown_pattern(chance, 20)
            chain = random_chain(pattern, chance)
            start, end, words = occurrence_by_chain(pattern, chain)
            back = 2 ** len(chain) - 1 - end
            number = len(chain)
            self.assertEqual(check(("standard", pattern, number, start, words)), RIGHT)
            self.assertEqual(check(("standard", pattern[::-1], number, back, turned(pattern, words))), RIGHT)

    def test_first_occurrences(self):
        chance = random.Random(4)
        for _ in range(150):
            pattern = random_pattern(chance, chance.randint(1, 8), 4)
            word = random_word(chance, chance.randint(0, 24), "abc")
            first = first_occurrence(pattern, word)
            self.assertEqual(check(("avoids", pattern, word)), RIGHT if first is None else ("wrong", 0))
            if first is not None:
                self.assertEqual(check(("meets", pattern, word, first[0], first[2])), RIGHT)
                back = len(word) - first[1]
                certificate = ("meets", pattern[::-1], word[::-1], back, turned(pattern, first[2]))
                self.assertEqual(check(certificate), RIGHT)

    def test_all_occurrences_at_an_index(self):
        for pattern, word in (("ABA", "abacabaab"), ("AAB", "aabbaabb"), ("AB", "abc")):
            for start in range(len(word)):
                for occurrence in occurrences_at(pattern, word, start):
                    self.assertEqual(check(("meets", pattern, word, start, occurrence[2])), RIGHT)

    def test_occurrences_in_long_words(self):
        chance = random.Random(5)
        for _ in range(60):
            pattern = grown_pattern(chance, 20)
            word = "q" * 200
            start, _, words = sure_occurrence(pattern, word)
            self.assertEqual(check(("meets", pattern, word, start, words)), RIGHT)
        for pattern in sure_patterns(4) + sure_patterns(3):
            index = index_of(pattern)
            for letters in ("ab", "xyz", "abcdefghij"):
                if index <= 2 or len(letters) == 2:
                    length = max(sure_length(index, len(letters)), 20)
                    word = letters + random_word(chance, min(length, 200) - len(letters), letters)
                    start, _, words = sure_occurrence(pattern, word)
                    self.assertEqual(check(("meets", pattern, word, start, words)), RIGHT)

    def test_avoiding_words(self):
        chance = random.Random(6)
        for _ in range(40):
            pattern = random_pattern(chance, chance.randint(2, 7), 4)
            for letters, length in ((1, 7), (2, 6), (3, 4)):
                for word in avoiding_words(pattern, letters, length):
                    self.assertEqual(check(("avoids", pattern, word)), RIGHT)
                least = least_avoiding(pattern, letters, 10)
                if least is not None:
                    self.assertEqual(check(("avoids", pattern, least)), RIGHT)

    def test_a_list_handed_in_for_other_patterns(self):
        rows = samples(7, 25)
        answers = []
        for pattern in rows:
            chain, family = shortest_chain(pattern), reachable_sets(pattern)
            for other in rows:
                if chain is not None:
                    answers.append(check(("chain", other, chain)))
                    self.assertEqual(answers[-1] == RIGHT, is_chain(other, chain))
                answers.append(check(("closed", other, family)))
                self.assertEqual(answers[-1] == RIGHT, is_closed_family(other, family))
        self.assertIn(RIGHT, answers)
        self.assertIn(("wrong", 0), answers)

    def test_chains_step_by_step(self):
        chance = random.Random(8)
        for _ in range(30):
            pattern = grown_pattern(chance, 20)
            space = Workspace()
            space.put("a", pattern)
            for at, letters in enumerate(shortest_chain(pattern)[:-1]):
                space.step("abcdefgh"[at + 1], "abcdefgh"[at], letters)
            rows = [(index_of(space.pattern(name)), name) for name in space.names()]
            self.assertEqual(space.sure_names(), [name for _, name in sorted(rows)])
            for name in space.names():
                for other in space.containing(name):
                    self.assertIs(contains(space.pattern(other), space.pattern(name)), True)

    def test_words_of_rules(self):
        rule = ("ab", "ca", "cd", "ac")
        start = rule_start(rule, 24)
        self.assertEqual(check(("avoids", "AA", start)), ("wrong", 0) if meets("AA", start) else RIGHT)
        self.assertIs(meets("AAA", rule_start(("ab", "ba"), 24)), False)
        self.assertEqual(image_of(("ab", "ba"), rule_start(("ab", "ba"), 12)), rule_start(("ab", "ba"), 24))


class Rules(unittest.TestCase):
    """What the functions of points 19 to 28 say together with those before."""

    def some_pairs(self, seed):
        chance = random.Random(seed)
        for rule in some_delayed_rules(seed, 27):
            for _ in range(3):
                yield rule, random_pattern(chance, chance.randint(1, 7), chance.randint(1, 3)), chance

    def test_sure_or_avoided(self):
        avoided = 0
        for rule, pattern, chance in self.some_pairs(20):
            found = avoidance(rule, pattern)
            if index_of(pattern) is not None:
                self.assertIn(found, (False, "TooMany"))
            if found is True:
                avoided += 1
                word = far_word(rule, chance.randrange(10 ** 100), 24)
                self.assertEqual(check(("avoids", pattern, word)), RIGHT)
                self.assertEqual(check(("closed", pattern, closed_family(pattern))), RIGHT)
                for letters, length in ((len(rule), 7),):
                    if letters <= 3:
                        self.assertIn(far_word(rule, 10 ** 9, length), avoiding_words(pattern, letters, length))
        self.assertGreater(avoided, 20)

    def test_occurrences_in_first_letters_and_far_ones(self):
        for rule, pattern, _ in self.some_pairs(21):
            if avoidance(rule, pattern) is False:
                place, lengths = far_occurrence(rule, pattern, way_of(rule, pattern))
                table = dict(zip(first_letters(pattern), lengths))
                words = {}
                at = place
                for letter in pattern:
                    words[letter] = far_word(rule, at, min(200, table[letter]))
                    at += table[letter]
                if at - place <= 24:
                    assignment = tuple(words.values())
                    self.assertEqual(check(("meets", pattern, far_word(rule, place, 24), 0, assignment)), RIGHT)
                    self.assertEqual(judge(("far", rule, pattern, place, assignment)), RIGHT)
            elif meets(pattern, rule_start(rule, 24)):
                self.assertEqual(avoidance(rule, pattern), "TooMany")

    def test_the_order_of_patterns(self):
        for rule, pattern, chance in self.some_pairs(22):
            other = random_pattern(chance, chance.randint(1, 4), 2)
            if contains(pattern, other) and avoidance(rule, other) is True:
                self.assertIn(avoidance(rule, pattern), (True, "TooMany"))


class NewLists(unittest.TestCase):
    """Every list that is returned may be changed; no later call returns another result for that."""

    def everything(self):
        space = Workspace()
        for name, pattern in (("a", "ABACABA"), ("b", "ABA"), ("c", "AA")):
            space.put(name, pattern)
        space.mark()
        calls = [
            (space.names, ()), (space.marks, ()), (space.sure_names, ()), (space.containing, ("b",)),
            (sure_patterns, (4,)), (avoiding_words, ("AA", 3, 4)), (avoiding_words, ("A", 1, 0)),
            (avoiding_words, ("A", 1, 1)), (occurrences_at, ("ABA", "abacaba", 0)), (occurrences_at, ("AA", "ab", 0)),
        ]
        for pattern in ("ABACABA", "AAB", "ABCDEFG", "AABB", "A"):
            for call in (joined, free_sets, shortest_chain, reachable_sets, closed_family):
                calls.append((call, (pattern,)))
        return calls + self.of_rules() + self.of_a_book()

    def of_rules(self):
        calls = [(rules_of, (2, 2)), (rules_of, (3, 2))]
        for rule in (("ab", "ba"), ("ab", "aa"), ("ab", "ca", "cd", "ac")):
            calls += [(factors_of, (rule, 0)), (factors_of, (rule, 3)), (factors_of, (rule, 16)), (cut_list, (rule, 4))]
            calls += [(cuts_of, (rule, "")), (cuts_of, (rule, "ab")), (cuts_of, (rule, "bbb")), (short_words, (rule,))]
            calls += [(results_of, (rule, "AA", (("", ""),))), (results_of, (rule, "Aa", (("", ""),)))]
            calls += [(results_of, (rule, "aAb", (("a",),))), (live_steps, (rule, "AAA")), (live_steps, (rule, "aAba"))]
            for shape in ("AA", "AAA", "AbAb", "AaaaA"):
                calls += [(way_of, (rule, shape)), (closed_shapes, (rule, shape))]
        return calls

    def of_a_book(self):
        book = Book()
        for name, pattern in (("a", "AAA"), ("b", "AA"), ("c", "ABABA")):
            book.put(name, pattern)
            book.put_rule(name, {"a": ("ab", "ba"), "b": ("ab", "aa"), "c": ("ab", "ca", "cd", "ac")}[name])
            book.mark()
        calls = [(book.names, ()), (book.marks, ()), (book.sure_names, ()), (book.rule_names, ())]
        for name in "abc":
            calls += [(book.avoided, (name,)), (book.avoiders, (name,)), (book.containing, (name,))]
        return calls

    def others(self):
        """Results that are no lists, but could be worked out from lists that were kept."""
        patterns = ("ABACABA", "AAB", "ABCDEFG", "AABB", "A")
        rows = [(index_of(pattern), first_occurrence(pattern, "abacabadabacaba")) for pattern in patterns]
        rows += [occurrence_in_standard(pattern) for pattern in patterns if index_of(pattern) is not None]
        rows += [least_avoiding("AA", 3, 10), contains("ABACABA", "ABA"), sure_occurrence("ABA", "abcabc" * 3)]
        rule = ("ab", "ba")
        rows += [delay_of(rule), two_places(rule, 3), factor_place(rule, "aab"), occurs(rule, "AA"), does_avoid(rule, "AAA")]
        rows += [first_avoider("AAA", 2, 3), far_occurrence(rule, "AA", [("AA", (("a",),))]), far_word(rule, 10 ** 80, 40)]
        rows += [judge(("closed", rule, "AAA", ["AAA", "aAaAaAa", "bAbAbAb"]))]
        return rows + [rule_start(rule, 30), check(("closed", "AAB", ["A", "AB"]))]

    def test_changed_results(self):
        calls = self.everything()
        first = [call(*arguments) for call, arguments in calls]
        kept = deepcopy(first)
        others = self.others()
        for result in first:
            if result is not None:
                result.insert(0, "more")
                result.append(None)
                result.reverse()
        self.assertEqual([call(*arguments) for call, arguments in calls], kept)
        self.assertEqual(self.others(), others)
        for result in [call(*arguments) for call, arguments in calls]:
            if result is not None:
                result.clear()
        self.assertEqual([call(*arguments) for call, arguments in calls], kept)
        self.assertEqual(self.others(), others)

    def test_results_stay_while_other_calls_are_made(self):
        calls = self.everything()
        held = [call(*arguments) for call, arguments in calls]
        kept = deepcopy(held)
        for call, arguments in calls + calls:
            call(*arguments)
        self.others()
        self.assertEqual(held, kept)
