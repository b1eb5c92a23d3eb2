"""The book, a workspace that keeps rules, too (point 27)."""

from surepatterns.avoiders import does_avoid
from surepatterns.errors import Full
from surepatterns.reading import reading_of
from surepatterns.workspace import Workspace, need_known_name, need_new_name

MOST_RULES = 6


class Book(Workspace):
    """Named patterns and named rules, and marks to which both can be brought back."""

    def __init__(self):
        super().__init__()
        self._rules = {}
        # The dicts of the rules at the marks, in the order of their numbers.
        self._marked_rules = []
        # What was found for rules and patterns is kept, as their indexes are in a workspace.
        self._avoidances = {}

    def put(self, name, pattern):
        """Store a pattern under a new name."""
        super().put(name, pattern)

    def step(self, name, source, letters):
        """Store, under a new name, the pattern of another name without a free set of letters."""
        super().step(name, source, letters)

    def remove(self, name):
        """Remove the name of a pattern."""
        super().remove(name)

    def mark(self):
        """Make a mark and return its number."""
        number = super().mark()
        self._marked_rules.append(dict(self._rules))
        return number

    def back(self, number):
        """Bring back the patterns and the rules of a mark, and remove the later marks."""
        super().back(number)
        self._rules = dict(self._marked_rules[number])
        self._marked_rules = self._marked_rules[:number + 1]

    def names(self):
        """The ascending list of the names of the patterns."""
        return super().names()

    def marks(self):
        """The ascending list of the numbers of the marks."""
        return super().marks()

    def pattern(self, name):
        """The pattern of a name."""
        return super().pattern(name)

    def sure_names(self):
        """The list of the names with sure patterns, ordered by the indexes, then by the names."""
        return super().sure_names()

    def containing(self, name):
        """The ascending list of all other names whose patterns contain the pattern of this name."""
        return super().containing(name)

    def put_rule(self, name, rule):
        """Store a rule with a delay under a name that no other rule has."""
        need_new_name(name, self._rules)
        reading_of(rule)
        if len(self._rules) == MOST_RULES:
            raise Full(MOST_RULES)
        self._rules[name] = rule

    def remove_rule(self, name):
        """Remove the name of a rule."""
        need_known_name(name, self._rules)
        del self._rules[name]

    def rule(self, name):
        """The rule of a name."""
        need_known_name(name, self._rules)
        return self._rules[name]

    def rule_names(self):
        """The ascending list of the names of the rules."""
        return sorted(self._rules)

    def avoided(self, name):
        """The ascending list of the names of the patterns that the rule of a name avoids."""
        rule = self.rule(name)
        return [other for other in self.names() if self._avoids(rule, self.pattern(other))]

    def avoiders(self, name):
        """The ascending list of the names of the rules that avoid the pattern of a name."""
        pattern = self.pattern(name)
        return [other for other in self.rule_names() if self._avoids(self.rule(other), pattern)]

    def _avoids(self, rule, pattern):
        if (rule, pattern) not in self._avoidances:
            self._avoidances[(rule, pattern)] = does_avoid(rule, pattern)
        return self._avoidances[(rule, pattern)]
