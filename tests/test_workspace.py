import random
import unittest
from copy import deepcopy
from functools import lru_cache

from surepatterns.chains import index_of, shortest_chain
from surepatterns.errors import (
    EmptyResult, Full, InvalidLetters, InvalidMark, InvalidName, InvalidPattern, NameTaken, NotFree, PatternError,
    UnknownName,
)
from surepatterns.order import contains
from surepatterns.workspace import Workspace
from tests.helper import (
    NESTED_LIST, NO_INTEGERS, NO_PATTERNS, NO_STRINGS, grown_pattern, letter_sets,
    random_pattern, regex_meets, samples, slow_free_sets, slow_shortest_chain, within_seconds, without,
)

NO_NAMES = NO_STRINGS + ["", "A", "aB", "a1", "a b", " a", "a\n", "abcdefghi", "z" * 9, "a" * 200, "\x00", "a_b"]
slow_index = lru_cache(None)(lambda pattern: None if (row := slow_shortest_chain(pattern)) is None else len(row))
slow_contains = lru_cache(None)(lambda first, second: regex_meets(second, first))


class Model:
    """What point 17 and the interface say, in the plainest way: a list of all that is stored."""

    def __init__(self):
        self.stored = {}
        self.kept = []

    def new_name(self, name):
        if not isinstance(name, str) or not 1 <= len(name) <= 8 or set(name) - set("abcdefghijklmnopqrstuvwxyz"):
            raise InvalidName(name)
        if name in self.stored:
            raise NameTaken(name)

    def store(self, name, pattern):
        if len(self.stored) >= 12:
            raise Full(12)
        self.stored = {**self.stored, name: pattern}

    def put(self, name, pattern):
        self.new_name(name)
        # The tests' other patterns are all wrong in a plain way.
        if pattern in NO_PATTERNS or isinstance(pattern, (list, tuple)):
            raise InvalidPattern("wrong")
        self.store(name, pattern)

    def step(self, name, source, letters):
        self.new_name(name)
        pattern = self.pattern(source)
        if not isinstance(letters, str) or letters not in letter_sets(pattern):
            raise InvalidLetters("wrong")
        if letters not in slow_free_sets(pattern):
            raise NotFree("wrong")
        if without(pattern, letters) == "":
            raise EmptyResult("wrong")
        self.store(name, without(pattern, letters))

    def remove(self, name):
        self.pattern(name)
        self.stored = {other: self.stored[other] for other in self.stored if other != name}

    def mark(self):
        if len(self.kept) >= 6:
            raise Full(6)
        self.kept.append(self.stored)
        return len(self.kept) - 1

    def back(self, number):
        if isinstance(number, bool) or not isinstance(number, int) or not 0 <= number < len(self.kept):
            raise InvalidMark(number)
        self.stored = self.kept[number]
        del self.kept[number + 1:]

    def names(self):
        return sorted(self.stored)

    def marks(self):
        return list(range(len(self.kept)))

    def pattern(self, name):
        if not isinstance(name, str) or name not in self.stored:
            raise UnknownName(name)
        return self.stored[name]

    def sure_names(self):
        rows = [(slow_index(pattern), name) for name, pattern in self.stored.items()]
        return [name for _, name in sorted([row for row in rows if row[0] is not None])]

    def containing(self, name):
        pattern = self.pattern(name)
        rows = [other for other in self.stored if other != name and slow_contains(self.stored[other], pattern)]
        return sorted(rows)


def outcome(call, arguments):
    """What a call returns, or the class of its error and what the error keeps."""
    try:
        return ("returned", call(*arguments))
    except PatternError as error:
        return ("raised", error.__class__, vars(error))


class Drawn:
    """Calls with arguments of every kind."""

    def __init__(self, chance, patterns, names):
        self.chance = chance
        self.patterns = patterns
        self.names = names

    def name(self):
        return self.chance.choice(self.names if self.chance.random() < 0.93 else NO_NAMES)

    def pattern(self):
        return self.chance.choice(self.patterns if self.chance.random() < 0.93 else NO_PATTERNS)

    def letters(self, pattern):
        if self.chance.random() < 0.07:
            return self.chance.choice(NO_STRINGS + ["", "BA", "a", "AA", "ABCDEFGH"])
        if pattern is None or self.chance.random() < 0.1:
            return "".join(sorted(self.chance.sample("ABCD", 2)))
        return self.chance.choice(slow_free_sets(pattern) + letter_sets(pattern)[:3])

    def known_name(self, model):
        return self.chance.choice(model.names() or self.names) if self.chance.random() < 0.8 else self.name()

    def call(self, model, weights):
        kind = self.chance.choices(["put", "step", "remove", "mark", "back"], weights)[0]
        if kind == "put":
            return kind, (self.name(), self.pattern())
        if kind == "step":
            source = self.known_name(model)
            pattern = model.stored.get(source) if isinstance(source, str) else None
            return kind, (self.name(), source, self.letters(pattern))
        if kind == "remove":
            return kind, (self.known_name(model),)
        if kind == "mark":
            return kind, ()
        wrong = NO_INTEGERS + [-1, 6, 7, 2 ** 70, len(model.kept), [1], (0,)]
        good = model.marks() + [0]
        return kind, (self.chance.choice(wrong if self.chance.random() < 0.2 else good),)


class Compared(unittest.TestCase):
    def compare(self, space, model, names):
        self.assertEqual(space.names(), model.names())
        self.assertEqual(space.marks(), model.marks())
        self.assertEqual(space.sure_names(), model.sure_names())
        for name in names:
            for method in ("pattern", "containing"):
                expected = outcome(getattr(model, method), (name,))
                self.assertEqual(outcome(getattr(space, method), (name,)), expected)

    def run_history(self, drawn, many, weights):
        space, model, used = Workspace(), Model(), []
        self.compare(space, model, ["a"])
        kinds = []
        for _ in range(many):
            kind, arguments = drawn.call(model, weights)
            before = deepcopy(arguments)
            expected = outcome(getattr(model, kind), arguments)
            self.assertEqual(outcome(getattr(space, kind), arguments), expected, (kind, arguments))
            self.assertEqual(arguments, before)
            kinds.append((kind, expected[0] if expected[0] == "returned" else expected[1]))
            used += [name for name in arguments[:2] if name not in used]
            self.compare(space, model, used)
        return kinds

    def test_histories(self):
        chance = random.Random(1)
        patterns = samples(2, 30) + ["A", "AA", "ABA", "ABACABA", "XYX", "AB", "BA"]
        kinds = []
        for _ in range(120):
            names = chance.sample(["a", "b", "c", "zz", "abcdefgh", "q", "name", "x", "y"], 6)
            drawn = Drawn(chance, chance.sample(patterns, 8), names)
            kinds += self.run_history(drawn, chance.randint(8, 24), [5, 5, 2, 2, 2])
        for kind in ("put", "step", "remove", "mark", "back"):
            self.assertGreater(kinds.count((kind, "returned")), 30)
        for error in (InvalidName, NameTaken, UnknownName, InvalidLetters, NotFree, EmptyResult):
            self.assertGreater(kinds.count(("step", error)), 5)
        for each in (("put", InvalidPattern), ("remove", UnknownName), ("back", InvalidMark), ("put", NameTaken)):
            self.assertGreater(kinds.count(each), 5)

    def test_full_workspaces(self):
        chance = random.Random(3)
        patterns = ["ABACABA", "ABA", "ABCBA", "AAB", "ABCD", "XY", "ABACABADABACABA"]
        kinds = []
        for _ in range(40):
            names = [letter * chance.randint(1, 8) for letter in "abcdefghijklmnopqr"]
            kinds += self.run_history(Drawn(chance, patterns, names), 40, [12, 6, 1, 1, 1])
            kinds += self.run_history(Drawn(chance, patterns, names), 24, [2, 1, 1, 12, 2])
        for each in (("put", Full), ("step", Full), ("mark", Full)):
            self.assertGreater(kinds.count(each), 5)


class Calls(unittest.TestCase):
    def filled(self, many):
        space = Workspace()
        for letter in "abcdefghijkl"[:many]:
            space.put(letter, "ABACABA")
        return space

    def raises(self, expected, call, *arguments):
        """Checks the exact class of the error and what it keeps."""
        found = outcome(call, arguments)
        self.assertEqual(found, ("raised", expected.__class__, vars(expected)), arguments)

    def test_example(self):
        space = Workspace()
        self.assertEqual([space.names(), space.marks(), space.sure_names()], [[], [], []])
        self.assertIsNone(space.put("a", "ABACABA"))
        self.assertIsNone(space.step("b", "a", "A"))
        found = [space.pattern("b"), space.sure_names(), space.containing("b")]
        self.assertEqual(found, ["BCB", ["b", "a"], ["a"]])
        self.assertIsNone(space.remove("a"))
        self.assertEqual(space.mark(), 0)
        self.assertIsNone(space.back(0))
        self.assertEqual(space.names(), ["b"])

    def test_no_names(self):
        for many in (0, 1, 12):
            space = self.filled(many)
            for value in NO_NAMES:
                with self.subTest(value=value):
                    self.raises(InvalidName(value), space.put, value, "A")
                    self.raises(InvalidName(value), space.put, value, None)
                    self.raises(InvalidName(value), space.step, value, "a", "A")
                    self.raises(InvalidName(value), space.step, value, None, None)
            self.assertEqual(len(space.names()), many)

    def test_unknown_names(self):
        for many in (0, 1, 12):
            space = self.filled(many)
            for value in NO_NAMES + ["z", "aa", "abcdefgh"]:
                with self.subTest(value=value):
                    for call in (space.remove, space.pattern, space.containing):
                        self.raises(UnknownName(value), call, value)
                    self.raises(UnknownName(value), space.step, "new", value, "A")
                    self.raises(UnknownName(value), space.step, "new", value, None)
            self.assertEqual(len(space.names()), many)

    def test_wrong_marks(self):
        for many in (0, 1, 2, 6):
            space = self.filled(2)
            for number in range(many):
                self.assertEqual(space.mark(), number)
            wrong = NO_INTEGERS + [many, many + 1, 6, 7, -1, -2, 2 ** 70, -2 ** 70, [0], (1,), "a", NESTED_LIST]
            for value in wrong:
                with self.subTest(value=value):
                    self.raises(InvalidMark(value), space.back, value)
            self.assertEqual(space.marks(), list(range(many)))

    def test_order_of_errors_of_put(self):
        full = self.filled(12)
        self.raises(InvalidName("A"), full.put, "A", "a")
        self.raises(NameTaken("a"), full.put, "a", "a")
        self.assertRaises(InvalidPattern, full.put, "new", "a")
        self.raises(Full(12), full.put, "new", "A")
        for value in NO_PATTERNS:
            self.assertEqual(outcome(full.put, ("new", value))[1], InvalidPattern)
            self.assertEqual(outcome(self.filled(1).put, ("new", value))[1], InvalidPattern)
            self.raises(NameTaken("a"), full.put, "a", value)

    def test_order_of_errors_of_step(self):
        full = self.filled(11)
        full.put("one", "A")
        self.raises(InvalidName("A"), full.step, "A", "none", "")
        self.raises(NameTaken("a"), full.step, "a", "none", "")
        self.raises(UnknownName("none"), full.step, "new", "none", "")
        self.raises(UnknownName("new"), full.step, "new", "new", "A")
        for value in NO_STRINGS + ["", "D", "BA", "AA", "a", "ABD"]:
            self.assertEqual(outcome(full.step, ("new", "a", value))[1], InvalidLetters)
        self.assertEqual(outcome(full.step, ("new", "a", "AB"))[1], NotFree)
        self.assertEqual(outcome(full.step, ("new", "a", "ABC"))[1], NotFree)
        self.assertEqual(outcome(full.step, ("new", "one", "A"))[1], EmptyResult)
        self.raises(Full(12), full.step, "new", "a", "A")

    def test_twelve_names(self):
        space = self.filled(11)
        space.step("l", "a", "A")
        self.raises(Full(12), space.put, "m", "A")
        self.raises(Full(12), space.step, "m", "a", "A")
        self.assertEqual(space.names(), list("abcdefghijkl"))
        space.remove("c")
        space.put("m", "A")
        self.raises(Full(12), space.put, "c", "A")
        self.assertEqual(space.names(), list("abdefghijklm"))

    def test_room_after_a_return(self):
        space = self.filled(10)
        self.assertEqual(space.mark(), 0)
        space.put("x", "A")
        space.put("y", "AB")
        self.raises(Full(12), space.put, "z", "A")
        space.back(0)
        space.put("z", "AA")
        space.put("y", "ABA")
        self.raises(Full(12), space.put, "x", "A")
        self.assertEqual([space.pattern("y"), space.pattern("z")], ["ABA", "AA"])

    def test_six_marks(self):
        space = self.filled(3)
        self.assertEqual([space.mark() for _ in range(6)], [0, 1, 2, 3, 4, 5])
        self.raises(Full(6), space.mark)
        self.assertEqual(space.marks(), [0, 1, 2, 3, 4, 5])
        space.back(5)
        self.raises(Full(6), space.mark)
        space.back(3)
        self.assertEqual(space.marks(), [0, 1, 2, 3])
        self.raises(InvalidMark(4), space.back, 4)
        self.assertEqual([space.mark(), space.mark()], [4, 5])
        self.raises(Full(6), space.mark)

    def test_a_mark_again_and_again(self):
        space = Workspace()
        self.assertEqual(space.mark(), 0)
        space.put("a", "ABA")
        self.assertEqual(space.mark(), 1)
        for name in ("b", "c", "d"):
            space.put(name, "AA")
            space.remove("a")
            space.back(1)
            self.assertEqual([space.names(), space.marks(), space.pattern("a")], [["a"], [0, 1], "ABA"])
        for _ in range(2):
            space.back(0)
            self.assertEqual([space.names(), space.marks()], [[], [0]])
            space.put("a", "XYZ")
        self.raises(InvalidMark(1), space.back, 1)
        self.assertEqual(space.pattern("a"), "XYZ")

    def test_a_mark_keeps_the_old_pattern_of_a_name(self):
        space = Workspace()
        space.put("a", "ABA")
        space.mark()
        space.remove("a")
        space.put("a", "AA")
        space.mark()
        space.back(1)
        self.assertEqual(space.pattern("a"), "AA")
        space.back(0)
        self.assertEqual(space.pattern("a"), "ABA")

    def test_failing_calls_change_nothing(self):
        space = self.filled(12)
        space.mark()
        for call, arguments in (
            (space.put, ("a", "A")), (space.put, ("new", "A")), (space.put, ("new", "a")), (space.put, ("", "A")),
            (space.step, ("new", "a", "A")), (space.step, ("new", "a", "AB")), (space.step, ("a", "a", "A")),
            (space.remove, ("new",)), (space.remove, (["a"],)), (space.back, (1,)), (space.back, (False,)),
            (space.pattern, ("new",)), (space.containing, (None,)),
        ):
            self.assertEqual(outcome(call, arguments)[0], "raised")
            self.assertEqual([space.names(), space.marks()], [list("abcdefghijkl"), [0]])
            self.assertEqual([space.pattern(name) for name in space.names()], ["ABACABA"] * 12)

    def test_results_are_new(self):
        space = self.filled(3)
        space.put("x", "ABA")
        space.mark()
        for call, arguments in (
            (space.names, ()), (space.marks, ()), (space.sure_names, ()), (space.containing, ("x",)),
        ):
            result = call(*arguments)
            again = list(result)
            result.append("more")
            result.reverse()
            self.assertEqual(call(*arguments), again)
            held = call(*arguments)
            space.put("y", "XYX")
            space.mark()
            self.assertEqual(held, again)
            space.back(0)
        self.assertEqual(space.names(), ["a", "b", "c", "x"])

    def test_two_workspaces(self):
        one, two = self.filled(2), Workspace()
        two.put("a", "AA")
        one.mark()
        self.assertEqual([two.names(), two.marks(), two.pattern("a")], [["a"], [], "AA"])
        self.raises(InvalidMark(0), two.back, 0)
        two.remove("a")
        self.assertEqual([one.names(), one.pattern("a")], [["a", "b"], "ABACABA"])
        self.assertEqual(Workspace().names(), [])

    def test_names_of_every_size(self):
        space = Workspace()
        for size in range(1, 9):
            space.put("z" * size, "AB"[:1 + size % 2])
            if size % 2 == 1:
                space.step("y" * size, "z" * size, "B")
        self.assertEqual(space.pattern("yyyyyyy"), "A")
        self.assertEqual(space.names(), sorted(["z" * size for size in range(1, 9)] + ["y", "yyy", "y" * 5, "y" * 7]))


class Together(unittest.TestCase):
    """What the workspace says of its patterns agrees with the other functions."""

    def test_sure_names(self):
        chance = random.Random(4)
        for _ in range(30):
            space = Workspace()
            patterns = {}
            for letter in chance.sample("abcdefghijklmnopq", 12):
                patterns[letter] = chance.choice([grown_pattern(chance, 12), random_pattern(chance, 6, 3), "ABA"])
                space.put(letter, patterns[letter])
            found = space.sure_names()
            rows = [(index_of(patterns[name]), name) for name in patterns if index_of(patterns[name]) is not None]
            self.assertEqual(found, [name for _, name in sorted(rows)])
            for name in patterns:
                others = [other for other in sorted(patterns) if other != name]
                expected = [other for other in others if contains(patterns[other], patterns[name])]
                self.assertEqual(space.containing(name), expected)

    def test_equal_patterns_contain_each_other(self):
        space = Workspace()
        for name, pattern in (("c", "ABA"), ("a", "XYX"), ("b", "ABA"), ("d", "AB")):
            space.put(name, pattern)
        self.assertEqual(space.containing("a"), ["b", "c"])
        self.assertEqual(space.containing("b"), ["a", "c"])
        self.assertEqual(space.containing("d"), ["a", "b", "c"])
        self.assertEqual(space.sure_names(), ["a", "b", "c", "d"])

    def test_steps_along_chains(self):
        chance = random.Random(5)
        for _ in range(60):
            pattern = grown_pattern(chance, 20)
            chain = shortest_chain(pattern)
            space = Workspace()
            space.put("s", pattern)
            names = "s" + "abcdefg"
            for at, letters in enumerate(chain[:-1]):
                space.step(names[at + 1], names[at], letters)
                self.assertEqual(index_of(space.pattern(names[at + 1])), len(chain) - at - 1)
                self.assertIn(names[at + 1], space.sure_names())
            last = names[len(chain) - 1]
            self.assertRaises(EmptyResult, space.step, "end", last, chain[-1])
            self.assertEqual(space.sure_names()[0], last)
            self.assertEqual(len(space.names()), len(chain))

    def test_hardest(self):
        chance = random.Random(6)
        space = Workspace()
        rows = [random_pattern(chance, 20, 7) for _ in range(6)]
        rows += ["ABCDEFG", "ABCDEFGG", "ABACADAEAFAGA", "ABCDEFGABCDEFG", "A" * 20, "ABACABADABACABAEABAC"]
        with within_seconds(self, 20):
            for name, pattern in zip("abcdefghijkl", rows):
                space.put(name, pattern)
            for number in range(6):
                self.assertEqual(space.mark(), number)
            self.assertEqual(space.sure_names()[:1], ["g"])
            for name, pattern in zip("abcdefghijkl", rows):
                expected = [
                    other for other, row in zip("abcdefghijkl", rows) if other != name and regex_meets(pattern, row)
                ]
                self.assertEqual(space.containing(name), expected)
