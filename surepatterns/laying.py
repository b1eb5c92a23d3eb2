"""The search that lays a pattern along a word."""

from surepatterns.alphabet import distinct


class Laying:
    """All ways to lay a pattern along a word, from the left to the right.

    A state (at, place, held) tells that the letter of the pattern at index `at` comes next, at index
    `place` of the word, and that the letters that have come so far hold the words of the tuple `held`.
    """

    def __init__(self, pattern, word):
        letters = distinct(pattern)
        self.word = word
        self.row = [letters.index(letter) for letter in pattern]
        self.last = [pattern.rfind(letter) for letter in letters]
        self.known = {}

    def ends(self, start):
        """For each end of an occurrence that begins at an index, how many there are: a dict."""
        return dict(self._ends((0, start, ())))

    def fits(self, start):
        """Tell whether an occurrence begins at an index."""
        return self._ends((0, start, ())) != {}

    def least(self, start, end):
        """The least assignment of the occurrences that begin and end at these indexes."""
        state = (0, start, ())
        chosen = ()
        while state[0] < len(self.row):
            word, after = self._steps_to(state, end)[0]
            if self._is_new(state):
                chosen = chosen + (word,)
            state = after
        return chosen

    def assignments(self, start, end):
        """The ascending list of the assignments of the occurrences that begin and end at these indexes."""
        return self._assignments((0, start, ()), end)

    def _assignments(self, state, end):
        if state[0] == len(self.row):
            return [()]
        found = []
        for word, after in self._steps_to(state, end):
            rests = self._assignments(after, end)
            if self._is_new(state):
                rests = [(word,) + rest for rest in rests]
            found.extend(rests)
        return found

    def _ends(self, state):
        # Many ways lead to one state; its answer is kept, since long words have too many ways to try each.
        if state not in self.known:
            self.known[state] = self._count(state)
        return self.known[state]

    def _count(self, state):
        at, place, _ = state
        if at == len(self.row):
            return {place: 1}
        found = {}
        for _, after in self._steps(state):
            onward = self._ends(after)
            for end in onward:
                found[end] = found.get(end, 0) + onward[end]
        return found

    def _steps_to(self, state, end):
        return [(word, after) for word, after in self._steps(state) if end in self._ends(after)]

    def _steps(self, state):
        """The words that the next letter may hold, the shorter ones first, each with the state after it."""
        at, place, held = state
        steps = []
        for word in self._words(state):
            words = held + (word,) if self._is_new(state) else held
            steps.append((word, (at + 1, place + len(word), self._needed(words, at + 1))))
        return steps

    def _is_new(self, state):
        at, _, held = state
        return self.row[at] == len(held)

    def _words(self, state):
        at, place, held = state
        if not self._is_new(state):
            word = held[self.row[at]]
            return [word] if self.word[place:place + len(word)] == word else []
        many = self.row[at:].count(self.row[at])
        spare = len(self.word) - place - self._least_room(at, held)
        return [self.word[place:place + size] for size in range(1, spare // many + 2)]

    def _least_room(self, at, held):
        """How many letters the rest of the pattern takes if each new letter holds only one."""
        room = 0
        for letter in self.row[at:]:
            room += len(held[letter]) if letter < len(held) else 1
        return room

    def _needed(self, words, at):
        # A word that does not come again is forgotten, so that more ways lead to the same state.
        return tuple([word if self.last[letter] >= at else "" for letter, word in enumerate(words)])
