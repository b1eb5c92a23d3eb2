"""The search for the live steps of a shape (point 23)."""

from surepatterns.pieces import DOT, capitals_of, choices_of, put_in, remaining, woven
from surepatterns.windows import CONTEXT


class StepSearch:
    """The live steps of a shape: those that lead to words, those that lead to shapes, or both.

    It chooses pieces for one capital letter after the other, and looks at the windows of what is known then. What
    they let through is looked at as a whole in the end.
    """

    def __init__(self, windows, shape, to_words, to_shapes):
        self.windows = windows
        self.shape = shape
        self.to_words = to_words
        self.to_shapes = to_shapes
        self.capitals = capitals_of(shape)
        self.viable = {capital: self._viable(capital) for capital in self.capitals}
        # A capital letter with few pieces comes first, so that few ways are tried that lead to nothing.
        self.order = sorted(self.capitals, key=lambda capital: len(self.viable[capital]))
        hidden = ["".join(self.order[at + 1:]) for at in range(len(self.order))]
        self.around = [self._around(capital, later) for capital, later in zip(self.order, hidden)]
        self.known = [self._known(capital, later) for capital, later in zip(self.order, hidden)]

    def each_step(self):
        """Each live step of the kinds that are asked for."""
        for pieces in self._each_choice(0, {}):
            for result in self._live_results(pieces):
                yield choices_of(self.shape, pieces), result

    def _each_choice(self, at, pieces):
        """Each way to choose the pieces from one capital letter on, unless windows show that nothing live comes."""
        if at == len(self.order):
            yield pieces
        else:
            after = at + 1
            for piece in self._pieces(at, pieces):
                chosen = {**pieces, self.order[at]: piece}
                if at == 0 or self._allow(self.known[at], chosen):
                    yield from self._each_choice(after, chosen)

    def _pieces(self, at, pieces):
        """The pieces of one capital letter that may come to those that are chosen."""
        viable = self.viable[self.order[at]]
        may_go = self.to_words or at < len(self.order) - 1 or DOT in "".join(pieces.values())
        found = list(viable) if at == 0 else self._fitting(self.around[at], pieces)
        return [piece for piece in found if piece in viable and (may_go or DOT in piece)]

    def _viable(self, capital):
        """The pieces of a capital letter that fit to the small letters and to themselves, a dict."""
        others = "".join([other for other in self.capitals if other != capital])
        before, behind = self._around(capital, others)
        found = self._fitting((before, behind), {})
        known = self._known(capital, others)
        if known == [before + capital + behind] and max(len(before), len(behind)) <= CONTEXT:
            return {piece: True for piece in found}
        return {piece: True for piece in found if self._allow(known, {capital: piece})}

    def _fitting(self, around, pieces):
        """The pieces that fit between what is known before and behind one place."""
        before = put_in(around[0], pieces)
        behind = put_in(around[1], pieces)
        left = before.rpartition(DOT)[2]
        right = behind.partition(DOT)[0]
        found = []
        if self.to_shapes:
            ends = self.windows.ends_behind(left, DOT in before)
            beginnings = self.windows.beginnings_before(right, DOT in behind)
            found.extend([end + DOT + beginning for end in ends for beginning in beginnings])
        if self.to_words or len(self.capitals) > 1:
            found.extend(self.windows.between(left, right))
        return found

    def _allow(self, known, pieces):
        """Tell whether no window shows that the known parts, with the pieces put in, are in nothing live."""
        for row in known:
            parts = put_in(row, pieces).split(DOT)
            for index, part in enumerate(parts):
                if not self.windows.allow(part, index > 0, index < len(parts) - 1):
                    return False
        return True

    def _live_results(self, pieces):
        parts = put_in(self.shape, pieces).split(DOT)
        if len(parts) == 1:
            return [part for part in parts if self.windows.is_factor(part)]
        above = self.windows.reading.words_above(parts)
        words = [[word for word in some if self.windows.is_factor(word)] for some in above]
        return woven(words, remaining(self.shape, pieces))

    def _around(self, capital, hidden):
        """What is known before and behind one place of a capital letter; the place of which most is known."""
        rows = []
        for index, letter in enumerate(self.shape):
            if letter == capital:
                before = _without(self.shape[:index], capital + hidden)[-1]
                behind = _without(self.shape[index + 1:], capital + hidden)[0]
                rows.append((before, behind))
        return max(rows, key=lambda row: min(len(row[0]), CONTEXT) + min(len(row[1]), CONTEXT))

    def _known(self, capital, hidden):
        """The longest parts of the shape that have a capital letter and none of the hidden ones."""
        rows = [row for row in _without(self.shape, hidden) if capital in row]
        return [row for row in sorted(set(rows)) if not _lies_in_another(row, rows)]


def _without(shape, capitals):
    """The parts of a shape between some capital letters."""
    for capital in capitals:
        shape = shape.replace(capital, " ")
    return shape.split(" ")


def _lies_in_another(row, rows):
    return [other for other in rows if row != other and row in other] != []
