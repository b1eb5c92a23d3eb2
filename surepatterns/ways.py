"""Ways and closed lists of shapes (point 24)."""

from surepatterns.errors import TooMany
from surepatterns.pieces import capitals_of
from surepatterns.reading import reading_of
from surepatterns.search import StepSearch
from surepatterns.shapes import has_choices, is_rule_shape, led_to, need_shape
from surepatterns.windows import Windows

MOST_SHAPES = 200


def occurs(rule, shape):
    """Tell whether a shape has an occurrence."""
    return way_of(rule, shape) is not None


def way_of(rule, shape):
    """A way of a shape with as few tuples as possible, or None."""
    reading = reading_of(rule)
    need_shape(rule, shape)
    return way_and_shapes(reading, shape)[0]


def closed_shapes(rule, shape):
    """The least closed list that has a shape, ascending, or None if the shape has a way."""
    reading = reading_of(rule)
    need_shape(rule, shape)
    way, shapes = way_and_shapes(reading, shape)
    return sorted(shapes) if way is None else None


def is_way(rule, shape, value):
    """Tell whether any value is a way of a shape."""
    reading = reading_of(rule)
    need_shape(rule, shape)
    return leads_to_factor(reading, shape, value)


def are_closed_shapes(rule, value):
    """Tell whether any value is a closed list of shapes."""
    return is_closed_list(reading_of(rule), value)


def leads_to_factor(reading, shape, value):
    """Tell whether any value is a way of what is known to be a shape."""
    if not isinstance(value, list):
        return False
    results = [shape]
    for row in value:
        if not isinstance(row, tuple) or len(row) != 2 or row[0] not in results:
            return False
        # A word to which choices lead is no shape, so nothing comes behind it.
        if capitals_of(row[0]) == "" or not has_choices(reading, row[0], row[1]):
            return False
        results = led_to(reading, row[0], row[1])
    return [word for word in results if capitals_of(word) == "" and reading.is_factor(word)] != []


def is_closed_list(reading, value):
    """Tell whether any value is a closed list of shapes of a rule."""
    if not isinstance(value, list):
        return False
    shapes = {}
    for shape in value:
        if not is_rule_shape(reading.images, shape):
            return False
        shapes[shape] = True
    windows = Windows(reading)
    for shape in shapes:
        if _leads_elsewhere(windows, shape, shapes):
            return False
    return True


def way_and_shapes(reading, shape):
    """A shortest way of what is known to be a shape, or None, and the shapes of the levels looked at for it."""
    windows = Windows(reading)
    # For each shape of the levels the way to it.
    ways = {shape: []}
    level = [shape]
    while level != []:
        for each in level:
            choices = _choices_to_word(windows, each)
            if choices is not None:
                return ways[each] + [(each, choices)], ways
        level = _next_level(windows, level, ways)
    return None, ways


def _leads_elsewhere(windows, shape, shapes):
    """Tell whether a live step of a shape has a result that is none of these shapes."""
    search = StepSearch(windows, shape, True, True)
    for _, result in search.each_step():
        if result not in shapes:
            return True
    return False


def _choices_to_word(windows, shape):
    """Choices with which a live step leads from a shape to a word, or None."""
    search = StepSearch(windows, shape, True, False)
    for choices, _ in search.each_step():
        return choices
    return None


def _next_level(windows, level, ways):
    """The shapes to which live steps lead that are on no earlier level; puts the ways to them into the dict."""
    found = []
    for shape in level:
        search = StepSearch(windows, shape, False, True)
        for choices, result in search.each_step():
            if result not in ways:
                ways[result] = ways[shape] + [(shape, choices)]
                found.append(result)
                if len(ways) > MOST_SHAPES:
                    raise TooMany(f"there are more than {MOST_SHAPES} shapes")
    return found
