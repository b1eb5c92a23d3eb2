"""The workspace, which keeps patterns under names (point 17)."""

from surepatterns.alphabet import SMALL, has_only
from surepatterns.chains import delete, index_of
from surepatterns.errors import EmptyResult, Full, InvalidMark, InvalidName, NameTaken, NotFree, UnknownName
from surepatterns.integers import is_integer_from
from surepatterns.joins import is_free
from surepatterns.order import contains
from surepatterns.patterns import need_pattern

LONGEST_NAME = 8
MOST_NAMES = 12
MOST_MARKS = 6


class Workspace:
    """Named patterns, and marks to which they can be brought back."""

    def __init__(self):
        self._patterns = {}
        # The dicts of the patterns at the marks, in the order of their numbers.
        self._marked = []
        # What was found for patterns is kept; the same ones are asked for again and again.
        self._indexes = {}
        self._contained = {}

    def put(self, name, pattern):
        """Store a pattern under a new name."""
        need_new_name(name, self._patterns)
        need_pattern(pattern)
        self._store(name, pattern)

    def step(self, name, source, letters):
        """Store, under a new name, the pattern of another name without a free set of letters."""
        need_new_name(name, self._patterns)
        pattern = self.pattern(source)
        if not is_free(pattern, letters):
            raise NotFree("the set of letters is not free in the pattern")
        rest = delete(pattern, letters)
        if rest == "":
            raise EmptyResult("nothing remains of the pattern")
        self._store(name, rest)

    def remove(self, name):
        """Remove a name."""
        need_known_name(name, self._patterns)
        del self._patterns[name]

    def mark(self):
        """Make a mark and return its number."""
        if len(self._marked) == MOST_MARKS:
            raise Full(MOST_MARKS)
        self._marked.append(dict(self._patterns))
        return len(self._marked) - 1

    def back(self, number):
        """Bring back the names and patterns of a mark, and remove the later marks."""
        if not is_integer_from(number, 0, len(self._marked) - 1):
            raise InvalidMark(number)
        self._patterns = dict(self._marked[number])
        self._marked = self._marked[:number + 1]

    def names(self):
        """The ascending list of the names."""
        return sorted(self._patterns)

    def marks(self):
        """The ascending list of the numbers of the marks."""
        return list(range(len(self._marked)))

    def pattern(self, name):
        """The pattern of a name."""
        need_known_name(name, self._patterns)
        return self._patterns[name]

    def sure_names(self):
        """The list of the names with sure patterns, ordered by the indexes, then by the names."""
        rows = [(self._index(self._patterns[name]), name) for name in self._patterns]
        return [row[1] for row in sorted([row for row in rows if row[0] is not None])]

    def containing(self, name):
        """The ascending list of all other names whose patterns contain the pattern of this name."""
        pattern = self.pattern(name)
        return [other for other in self.names() if other != name and self._contains(self._patterns[other], pattern)]

    def _store(self, name, pattern):
        if len(self._patterns) == MOST_NAMES:
            raise Full(MOST_NAMES)
        self._patterns[name] = pattern

    def _index(self, pattern):
        if pattern not in self._indexes:
            self._indexes[pattern] = index_of(pattern)
        return self._indexes[pattern]

    def _contains(self, first, second):
        if (first, second) not in self._contained:
            self._contained[(first, second)] = contains(first, second)
        return self._contained[(first, second)]


def need_new_name(name, table):
    """Raise InvalidName if any value is no name, NameTaken if the table has it."""
    if not _is_name(name):
        raise InvalidName(name)
    if name in table:
        raise NameTaken(name)


def need_known_name(name, table):
    """Raise UnknownName for any value that is not a name of the table."""
    if not isinstance(name, str) or name not in table:
        raise UnknownName(name)


def _is_name(value):
    return isinstance(value, str) and 1 <= len(value) <= LONGEST_NAME and has_only(value, SMALL)
