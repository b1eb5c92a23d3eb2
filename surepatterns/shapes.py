"""Shapes, choices and steps of rules with a delay (points 22 and 23)."""

from surepatterns.alphabet import CAPITALS, SMALL, has_only
from surepatterns.errors import TooMany
from surepatterns.pieces import (
    DOT, LONGEST_SHAPE, blocks_of, capitals_of, pieces_of, put_in, remaining, woven,
)
from surepatterns.reading import reading_of
from surepatterns.rules import is_rule_word
from surepatterns.search import StepSearch
from surepatterns.windows import Windows
from surepatterns.wrongs import InvalidShape, InvalidWay

MOST_CAPITALS = 7
MOST_STEPS = 300


def is_shape(rule, value):
    """Tell whether any value is a shape of a rule with a delay."""
    reading_of(rule)
    return is_rule_shape(rule, value)


def is_dead(rule, shape):
    """Tell whether one of the blocks of a shape is no factor."""
    reading = reading_of(rule)
    need_shape(rule, shape)
    return [block for block in blocks_of(shape) if not reading.is_factor(block)] != []


def are_choices(rule, shape, value):
    """Tell whether any value is choices for a shape."""
    reading = reading_of(rule)
    need_shape(rule, shape)
    return has_choices(reading, shape, value)


def results_of(rule, shape, choices):
    """The ascending list of the word or the shapes, dead ones too, to which choices lead."""
    reading = reading_of(rule)
    need_shape(rule, shape)
    if not has_choices(reading, shape, choices):
        raise InvalidWay("these are no choices for the shape")
    return sorted(led_to(reading, shape, choices))


def live_steps(rule, shape):
    """The ascending list of the live steps."""
    reading = reading_of(rule)
    need_shape(rule, shape)
    search = StepSearch(Windows(reading), shape, True, True)
    steps = []
    for choices, result in search.each_step():
        steps.append((choices, result))
        if len(steps) > MOST_STEPS:
            raise TooMany(f"there are more than {MOST_STEPS} live steps")
    return sorted(steps)


def is_rule_shape(rule, value):
    """Tell whether any value is a shape in the letters of a rule."""
    if not isinstance(value, str) or not 1 <= len(value) <= LONGEST_SHAPE:
        return False
    return has_only(value, CAPITALS + SMALL[:len(rule)]) and 1 <= len(capitals_of(value)) <= MOST_CAPITALS


def need_shape(rule, value):
    """Raise InvalidShape if any value is not a shape in the letters of a rule."""
    if not is_rule_shape(rule, value):
        raise InvalidShape("a shape has 1 to 60 letters, some of them capital letters, the others of the rule")


def has_choices(reading, shape, value):
    """Tell whether any value is choices for what is known to be a shape."""
    if not isinstance(value, tuple) or len(value) != len(capitals_of(shape)):
        return False
    return [choice for choice in value if not _is_choice(reading, choice)] == []


def led_to(reading, shape, choices):
    """The list of the word or the shapes to which choices lead."""
    pieces = pieces_of(shape, choices)
    parts = put_in(shape, pieces).split(DOT)
    if len(parts) == 1:
        return parts
    return woven(reading.words_above(parts), remaining(shape, pieces))


def _is_choice(reading, value):
    if not isinstance(value, tuple) or not 1 <= len(value) <= 2:
        return False
    for word in value:
        if not is_rule_word(reading.images, word):
            return False
    if len(value) == 1:
        return reading.is_short(value[0])
    return value[0] in reading.endings and value[1] in reading.beginnings
