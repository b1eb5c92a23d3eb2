"""Occurrences that ways tell, and words at far places (point 25)."""

from surepatterns.errors import InvalidNumber
from surepatterns.integers import is_integer, need_integer
from surepatterns.pieces import DOT, capitals_of, pieces_of, put_in
from surepatterns.reading import reading_of
from surepatterns.rules import word_of
from surepatterns.shapes import need_shape
from surepatterns.ways import leads_to_factor
from surepatterns.wrongs import InvalidWay

LONGEST_WORD = 200


def far_occurrence(rule, shape, way):
    """The tuple (place, lengths) of the occurrence that a way tells."""
    reading = reading_of(rule)
    need_shape(rule, shape)
    if not leads_to_factor(reading, shape, way):
        raise InvalidWay("this is no way of the shape")
    last_shape, last_choices = way[-1]
    place = reading.lineage.place(put_in(last_shape, pieces_of(last_shape, last_choices)))
    lengths = {}
    for each, choices in reversed(way):
        lengths = _lengths_below(reading.size, each, choices, lengths)
        if DOT in put_in(each, pieces_of(each, choices)):
            place = _place_below(reading.size, each, choices, place)
    return (place, tuple([lengths[capital] for capital in capitals_of(shape)]))


def far_word(rule, place, length):
    """The word of a length that stands in the rule word at a place of any size."""
    reading_of(rule)
    if not is_integer(place) or place < 0:
        raise InvalidNumber("a place is an integer from 0 on")
    need_integer(length, 0, LONGEST_WORD)
    return word_of(rule, place, length)


def _place_below(size, shape, choices, place):
    """The place of a shape, if that to which its choices lead stands at a place."""
    first = put_in(shape, pieces_of(shape, choices)).split(DOT)[0]
    return size * place + (-len(first) % size)


def _lengths_below(size, shape, choices, lengths):
    """The lengths of the words of a shape, for those of the shape to which its choices lead; dicts."""
    below = {}
    for capital, choice in zip(capitals_of(shape), choices):
        inner = size * lengths[capital] if len(choice) == 2 else 0
        below[capital] = sum([len(word) for word in choice]) + inner
    return below
