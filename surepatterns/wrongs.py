"""The errors of rules, shapes, ways and records."""

from surepatterns.errors import PatternError


class InvalidRule(PatternError):
    """The value is not a rule."""


class InvalidShape(PatternError):
    """The value is not a shape of the rule."""


class InvalidWay(PatternError):
    """The value is not a way, or not choices for the shape."""


class NoDelay(PatternError):
    """The rule has no delay."""


class NotARecord(PatternError):
    """The value is not a record."""
