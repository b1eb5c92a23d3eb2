import random
import unittest
from copy import deepcopy
from functools import lru_cache

from surepatterns.book import Book
from surepatterns.errors import Full, InvalidMark, InvalidName, InvalidPattern, NameTaken, TooMany, UnknownName
from surepatterns.workspace import Workspace
from surepatterns.wrongs import InvalidRule, NoDelay
from tests.helper import NESTED_LIST, NO_INTEGERS, NO_PATTERNS, NO_STRINGS, random_pattern, within_seconds
from tests.slow_rules import (
    BY_DELAY, FIBONACCI, FOUR, MORSE, NO_DELAY, NO_RULES, ONCE, random_delayed_rule, slow_delay,
)
from tests.test_avoiders import avoidance
from tests.test_workspace import NO_NAMES, Drawn, Model, outcome

kept_avoidance = lru_cache(None)(avoidance)


class BookModel(Model):
    """What point 27 and the interface say, in the plainest way."""

    def __init__(self):
        Model.__init__(self)
        self.rules = {}
        self.kept_rules = []

    def put_rule(self, name, rule):
        stored, self.stored = self.stored, self.rules
        try:
            self.new_name(name)
        finally:
            self.stored = stored
        # The tests' other rules are all wrong in a plain way.
        if not isinstance(rule, tuple) or rule in NO_RULES:
            raise InvalidRule("wrong")
        if rule in NO_DELAY:
            raise NoDelay("wrong")
        if len(self.rules) >= 6:
            raise Full(6)
        self.rules = {**self.rules, name: rule}

    def remove_rule(self, name):
        self.rule(name)
        self.rules = {other: self.rules[other] for other in self.rules if other != name}

    def mark(self):
        number = Model.mark(self)
        self.kept_rules.append(self.rules)
        return number

    def back(self, number):
        Model.back(self, number)
        self.rules = self.kept_rules[number]
        del self.kept_rules[number + 1:]

    def rule(self, name):
        if not isinstance(name, str) or name not in self.rules:
            raise UnknownName(name)
        return self.rules[name]

    def rule_names(self):
        return sorted(self.rules)

    def avoided(self, name):
        rule = self.rule(name)
        answers = {other: kept_avoidance(rule, self.stored[other]) for other in self.stored}
        return chosen(answers)

    def avoiders(self, name):
        pattern = self.pattern(name)
        return chosen({other: kept_avoidance(self.rules[other], pattern) for other in self.rules})


def chosen(answers):
    if "TooMany" in answers.values():
        raise TooMany("wrong")
    return sorted([name for name in answers if answers[name]])


class DrawnRules(Drawn):
    """Calls with rules, too."""

    def __init__(self, chance, patterns, names, rules):
        Drawn.__init__(self, chance, patterns, names)
        self.rules = rules

    def rule(self):
        some = self.rules if self.chance.random() < 0.85 else self.chance.choice([NO_RULES, NO_DELAY])
        return self.chance.choice(some)

    def call(self, model, weights):
        if self.chance.random() < 0.6:
            return Drawn.call(self, model, weights)
        if self.chance.random() < 0.7:
            return "put_rule", (self.name(), self.rule())
        names = model.rule_names() or self.names
        return "remove_rule", (self.chance.choice(names) if self.chance.random() < 0.8 else self.name(),)


class Compared(unittest.TestCase):
    def compare(self, book, model, names):
        for method in ("names", "marks", "sure_names", "rule_names"):
            self.assertEqual(getattr(book, method)(), getattr(model, method)())
        for name in names:
            for method in ("pattern", "containing", "rule", "avoided", "avoiders"):
                expected = outcome(getattr(model, method), (name,))
                found = outcome(getattr(book, method), (name,))
                self.assertEqual(found[:2], expected[:2], (method, name))
                if expected[0] == "raised" and expected[1] is UnknownName:
                    self.assertEqual(found, expected)

    def run_history(self, drawn, many, weights):
        book, model, used = Book(), BookModel(), []
        self.compare(book, model, ["a"])
        kinds = []
        for _ in range(many):
            kind, arguments = drawn.call(model, weights)
            before = deepcopy(arguments)
            expected = outcome(getattr(model, kind), arguments)
            self.assertEqual(outcome(getattr(book, kind), arguments), expected, (kind, arguments))
            self.assertEqual(arguments, before)
            kinds.append((kind, expected[0] if expected[0] == "returned" else expected[1]))
            used += [name for name in arguments[:1] if name not in used]
            self.compare(book, model, used)
        return kinds

    def test_histories(self):
        chance = random.Random(1)
        patterns = [random_pattern(chance, chance.randint(1, 6), 3) for _ in range(20)] + ["AA", "AAA", "ABA", "AABB"]
        rules = [rule for rule in BY_DELAY[:5] + [MORSE, FIBONACCI, FOUR, ONCE] if slow_delay(rule) <= 5]
        kinds = []
        for _ in range(120):
            names = chance.sample(["a", "b", "c", "zz", "abcdefgh", "q", "name", "x", "y"], 6)
            drawn = DrawnRules(chance, chance.sample(patterns, 8), names, chance.sample(rules, 4))
            kinds += self.run_history(drawn, chance.randint(8, 24), [5, 3, 2, 3, 3])
        for kind in ("put", "step", "remove", "mark", "back", "put_rule", "remove_rule"):
            self.assertGreater(kinds.count((kind, "returned")), 10, kind)
        for error in (InvalidName, NameTaken, InvalidRule):
            self.assertGreater(kinds.count(("put_rule", error)), 5)
        for each in (("remove_rule", UnknownName), ("back", InvalidMark), ("put", InvalidPattern), ("put_rule", NoDelay)):
            self.assertGreater(kinds.count(each), 3, each)

    def test_full_books(self):
        chance = random.Random(2)
        patterns = ["ABACABA", "AA", "AAB", "ABCBA", "AAA", "ABAB"]
        rules = [MORSE, FIBONACCI, FOUR, ONCE, ("ac", "bc", "ab")]
        kinds = []
        for _ in range(15):
            names = [letter * chance.randint(1, 8) for letter in "abcdefghijklmnopqr"]
            kinds += self.run_history(DrawnRules(chance, patterns, names, rules), 70, [12, 6, 1, 1, 1])
        for each in (("put_rule", Full), ("put", Full)):
            self.assertGreater(kinds.count(each), 5, each)


class Calls(unittest.TestCase):
    def filled(self, many):
        book = Book()
        for letter, rule in zip("abcdef"[:many], [MORSE, FIBONACCI, FOUR, ONCE, MORSE, FIBONACCI]):
            book.put_rule(letter, rule)
        return book

    def raises(self, expected, call, *arguments):
        """Checks the exact class of the error and what it keeps."""
        self.assertEqual(outcome(call, arguments), ("raised", expected.__class__, vars(expected)), arguments)

    def test_example(self):
        book = Book()
        self.assertIsInstance(book, Workspace)
        self.assertIsNone(book.put("cube", "AAA"))
        self.assertIsNone(book.put("square", "AA"))
        self.assertIsNone(book.put_rule("two", MORSE))
        self.assertEqual([book.avoided("two"), book.avoiders("square"), book.rule_names()], [["cube"], [], ["two"]])
        self.assertEqual([book.rule("two"), book.avoiders("cube")], [MORSE, ["two"]])
        self.assertIsNone(book.remove_rule("two"))
        self.assertEqual([book.rule_names(), book.avoiders("cube")], [[], []])

    def test_one_name_for_a_rule_and_a_pattern(self):
        book = Book()
        book.put("a", "AAA")
        book.put_rule("a", MORSE)
        self.assertEqual([book.names(), book.rule_names()], [["a"], ["a"]])
        self.assertEqual([book.avoided("a"), book.avoiders("a"), book.pattern("a"), book.rule("a")],
                         [["a"], ["a"], "AAA", MORSE])
        self.raises(NameTaken("a"), book.put_rule, "a", FIBONACCI)
        book.remove("a")
        self.assertEqual([book.names(), book.rule_names(), book.avoided("a")], [[], ["a"], []])
        self.raises(UnknownName("a"), book.avoiders, "a")
        book.put("a", "AA")
        book.remove_rule("a")
        self.assertEqual([book.names(), book.rule_names(), book.avoiders("a")], [["a"], [], []])
        self.raises(UnknownName("a"), book.avoided, "a")

    def test_no_names(self):
        for many in (0, 1, 6):
            book = self.filled(many)
            for value in NO_NAMES:
                with self.subTest(value=value):
                    self.raises(InvalidName(value), book.put_rule, value, MORSE)
                    self.raises(InvalidName(value), book.put_rule, value, None)
            self.assertEqual(len(book.rule_names()), many)

    def test_unknown_names(self):
        for many in (0, 1, 6):
            book = self.filled(many)
            book.put("pattern", "AA")
            for value in NO_NAMES + ["z", "aa", "abcdefgh", "pattern"]:
                with self.subTest(value=value):
                    for call in (book.remove_rule, book.rule, book.avoided):
                        self.raises(UnknownName(value), call, value)
            for value in NO_NAMES + ["z", "a", "b"]:
                self.raises(UnknownName(value), book.avoiders, value)
            self.assertEqual(len(book.rule_names()), many)

    def test_no_rules(self):
        for many in (0, 6):
            book = self.filled(many)
            for value in NO_RULES:
                self.assertEqual(outcome(book.put_rule, ("new", value))[1], InvalidRule)
            for value in NO_DELAY:
                self.assertEqual(outcome(book.put_rule, ("new", value))[1], NoDelay)
            if many:
                self.raises(NameTaken("a"), book.put_rule, "a", None)
                self.raises(NameTaken("a"), book.put_rule, "a", NO_DELAY[0])
                self.raises(Full(6), book.put_rule, "new", MORSE)

    def test_the_sixth_rule_and_the_seventh(self):
        book = self.filled(5)
        self.assertIsNone(book.put_rule("f", MORSE))
        self.raises(Full(6), book.put_rule, "g", MORSE)
        book.remove_rule("c")
        self.assertIsNone(book.put_rule("g", FOUR))
        self.raises(Full(6), book.put_rule, "c", FOUR)
        self.assertEqual(book.rule_names(), ["a", "b", "d", "e", "f", "g"])

    def test_twelve_patterns_and_six_rules(self):
        book = self.filled(6)
        for letter in "abcdefghijkl":
            book.put(letter, "AAA" if letter < "d" else "ABA")
        self.raises(Full(12), book.put, "m", "A")
        self.raises(Full(6), book.put_rule, "m", MORSE)
        self.assertEqual(book.avoided("a"), ["a", "b", "c"])
        self.assertEqual(book.avoiders("a"), [name for name in "abcdef" if avoidance(book.rule(name), "AAA")])
        self.assertEqual([book.mark() for _ in range(6)], [0, 1, 2, 3, 4, 5])
        self.raises(Full(6), book.mark)

    def test_marks(self):
        book = Book()
        book.put_rule("a", MORSE)
        self.assertEqual(book.mark(), 0)
        book.put_rule("b", FIBONACCI)
        book.put("x", "AAA")
        self.assertEqual(book.mark(), 1)
        book.remove_rule("a")
        book.put_rule("a", FOUR)
        book.remove("x")
        self.assertIsNone(book.back(1))
        self.assertEqual([book.rule("a"), book.rule_names(), book.names()], [MORSE, ["a", "b"], ["x"]])
        self.assertIsNone(book.back(0))
        self.assertEqual([book.rule_names(), book.names(), book.marks()], [["a"], [], [0]])
        self.raises(InvalidMark(1), book.back, 1)
        for value in NO_INTEGERS + [-1, 6, 2 ** 70, NESTED_LIST]:
            self.raises(InvalidMark(value), book.back, value)
        book.put_rule("c", ONCE)
        self.assertEqual(book.mark(), 1)
        book.remove_rule("c")
        book.back(1)
        self.assertEqual(book.rule_names(), ["a", "c"])
        book.back(0)
        book.back(0)
        self.assertEqual(book.rule_names(), ["a"])

    def test_refused_calls_change_nothing(self):
        book = self.filled(6)
        book.put("a", "AAA")
        book.mark()
        for call, arguments in (
            (book.put_rule, ("a", MORSE)), (book.put_rule, ("new", MORSE)), (book.put_rule, ("", MORSE)),
            (book.put_rule, ("new", None)), (book.put_rule, ("new", NO_DELAY[0])), (book.remove_rule, ("new",)),
            (book.remove_rule, (["a"],)), (book.rule, (None,)), (book.avoided, ("new",)), (book.avoiders, ("new",)),
            (book.back, (1,)), (book.back, (False,)), (book.put, ("a", "A")), (book.remove, ("b",)),
        ):
            self.assertEqual(outcome(call, arguments)[0], "raised")
            self.assertEqual([book.rule_names(), book.names(), book.marks()], [list("abcdef"), ["a"], [0]])
            self.assertEqual([book.rule(name) for name in "abcd"], [MORSE, FIBONACCI, FOUR, ONCE])

    def test_too_many(self):
        book = Book()
        book.put("a", "BAACCC")
        book.put("b", "AA")
        book.put_rule("r", ("aba", "abb"))
        book.put_rule("s", MORSE)
        for _ in range(2):
            self.assertEqual(outcome(book.avoided, ("r",))[1], TooMany)
            self.assertEqual(outcome(book.avoiders, ("a",))[1], TooMany)
        self.assertEqual(book.avoiders("b"), [])
        book.remove("a")
        self.assertEqual(book.avoided("r"), [])

    def test_two_books_and_a_workspace(self):
        one, two, space = self.filled(2), Book(), Workspace()
        two.put_rule("a", FOUR)
        two.put("a", "AA")
        space.put("a", "XYX")
        one.mark()
        self.assertEqual([one.rule("a"), two.rule("a"), two.marks(), space.marks()], [MORSE, FOUR, [], []])
        two.remove_rule("a")
        two.remove("a")
        self.assertEqual([one.rule_names(), space.pattern("a"), Book().rule_names()], [["a", "b"], "XYX", []])

    def test_results_are_new(self):
        book = self.filled(3)
        for name, pattern in (("a", "AAA"), ("b", "AA"), ("c", "AAAA")):
            book.put(name, pattern)
        book.mark()
        calls = [(book.rule_names, ()), (book.names, ()), (book.marks, ()), (book.sure_names, ())]
        calls += [(call, (name,)) for call in (book.avoided, book.avoiders, book.containing) for name in "abc"]
        for call, arguments in calls:
            result = call(*arguments)
            again = list(result)
            result.append("more")
            result.reverse()
            self.assertEqual(call(*arguments), again)


class AsAWorkspace(unittest.TestCase):
    """A book answers as a workspace does for the calls of stage 11."""

    def test_histories(self):
        chance = random.Random(3)
        for _ in range(40):
            names = chance.sample(["a", "b", "c", "zz", "abcdefgh", "q", "name", "x", "y"], 6)
            patterns = [random_pattern(chance, chance.randint(1, 8), 3) for _ in range(6)]
            drawn = Drawn(chance, patterns, names)
            book, space, model = Book(), Workspace(), Model()
            for _ in range(20):
                kind, arguments = drawn.call(model, [5, 3, 2, 3, 3])
                outcome(getattr(model, kind), arguments)
                self.assertEqual(outcome(getattr(book, kind), arguments), outcome(getattr(space, kind), arguments))
                for method in ("names", "marks", "sure_names"):
                    self.assertEqual(getattr(book, method)(), getattr(space, method)())
                for name in names + [None]:
                    for method in ("pattern", "containing"):
                        found = outcome(getattr(book, method), (name,))
                        self.assertEqual(found, outcome(getattr(space, method), (name,)))

    def test_wrong_arguments(self):
        book = Book()
        for value in NO_PATTERNS:
            self.assertEqual(outcome(book.put, ("a", value))[1], InvalidPattern)
        for value in NO_STRINGS + [""]:
            self.assertEqual(outcome(book.put, (value, "A"))[1], InvalidName)
            self.assertEqual(outcome(book.pattern, (value,))[1], UnknownName)

    def test_hardest(self):
        chance = random.Random(4)
        book = Book()
        with within_seconds(self, 60):
            for letter in "abcdef":
                book.put_rule(letter, random_delayed_rule(chance, least=3))
                if letter < "g":
                    book.mark()
            for letter in "abcdefghijkl":
                book.put(letter, random_pattern(chance, 8, 3))
            for _ in range(20):
                for letter in "abcdef":
                    outcome(book.avoided, (letter,))
                    outcome(book.avoiders, (letter,))
            self.assertEqual(len(book.marks()), 6)
