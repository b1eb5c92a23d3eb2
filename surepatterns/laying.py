"""The search that lays a pattern along a word."""

from surepatterns.alphabet import distinct
from surepatterns.errors import TooMany


class Laying:
    """All ways to lay a pattern along a word, from the left to the right.

    A state (at, place, held, spare) tells that the letter of the pattern at index `at` comes next, at index
    `place` of the word, that the letters that have come so far hold the words of the tuple `held`, and how
    many letters of the word are left over if each letter that is still new holds only one. A word that does
    not come again is forgotten in `held`, so that more ways lead to the same state. What is found for a state
    is kept, since long words have too many ways to try each.
    """

    def __init__(self, pattern, word):
        letters = distinct(pattern)
        self.word = word
        self.row = [letters.index(letter) for letter in pattern]
        self.many = [pattern.count(letter) for letter in letters]
        self.least_ends = {}
        self.counts = {}
        self.rests = {}

    def fits(self, start):
        """Tell whether an occurrence begins at an index."""
        return self._fits(self._first_state(start))

    def least(self, start):
        """The end and the assignment of the least occurrence that begins at an index, where there is one."""
        state = self._first_state(start)
        end = self._least_end(state)
        chosen = ()
        while state[0] < len(self.row):
            word, after = [step for step in self._steps(state) if self._least_end(step[1]) == end][0]
            if self._is_new(state):
                chosen = chosen + (word,)
            state = after
        return end, chosen

    def count(self, start):
        """The number of the occurrences that begin at an index."""
        return self._count(self._first_state(start))

    def listed(self, start, most):
        """The ends and assignments of all occurrences that begin at an index; TooMany if there are more."""
        return self._rests(self._first_state(start), most)

    def _first_state(self, start):
        return (0, start, (), len(self.word) - start - len(self.row))

    def _fits(self, state):
        if state[0] == len(self.row):
            return True
        if state in self.least_ends:
            return self.least_ends[state] is not None
        for _, after in self._steps(state):
            if self._fits(after):
                return True
        self.least_ends[state] = None
        return False

    def _least_end(self, state):
        """The least end of the ways to go on from a state, or None."""
        if state[0] == len(self.row):
            return state[1]
        if state not in self.least_ends:
            ends = [self._least_end(after) for _, after in self._steps(state)]
            self.least_ends[state] = min([end for end in ends if end is not None], default=None)
        return self.least_ends[state]

    def _count(self, state):
        if state[0] == len(self.row):
            return 1
        if state not in self.counts:
            self.counts[state] = sum([self._count(after) for _, after in self._steps(state)])
        return self.counts[state]

    def _rests(self, state, most):
        if state not in self.rests:
            self.rests[state] = self._ways(state, most)
        return self.rests[state]

    def _ways(self, state, most):
        """All ways to go on from a state: the ends, each with the words of the letters that are new."""
        steps = self._steps(state)
        is_new = self._is_new(state)
        if state[0] == len(self.row) - 1:
            return [(after[1], (word,) if is_new else ()) for word, after in steps]
        found = []
        for word, after in steps:
            rests = self._rests(after, most)
            found.extend([(end, (word,) + words) for end, words in rests] if is_new else rests)
            # Each way to go on belongs to another occurrence, so there is no need to look at the others.
            if len(found) > most:
                raise TooMany(f"there are more than {most} occurrences")
        return found

    def _is_new(self, state):
        return self.row[state[0]] == len(state[2])

    def _steps(self, state):
        """The words that the next letter may hold, the shorter ones first, each with the state after it."""
        return self._new_steps(state) if self._is_new(state) else self._old_steps(state)

    def _new_steps(self, state):
        at, place, held, spare = state
        many = self.many[len(held)]
        steps = []
        for size in range(1, 2 + spare // many):
            word = self.word[place:place + size]
            kept = word if many > 1 else ""
            steps.append((word, (at + 1, place + size, held + (kept,), spare - many * (size - 1))))
        return steps

    def _old_steps(self, state):
        at, place, held, spare = state
        letter = self.row[at]
        word = held[letter]
        if not self.word.startswith(word, place):
            return []
        after = held[:letter] + ("",) + held[letter + 1:] if letter not in self.row[at + 1:] else held
        return [(word, (at + 1, place + len(word), after, spare))]
