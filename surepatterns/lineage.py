"""Going back from the factors of a rule to the shorter words in whose images they stand (points 20 and 21)."""

from surepatterns.alphabet import SMALL
from surepatterns.rules import image

LAST_DELAY = 12


class Lineage:
    """The factors of a rule, their places and their cuts.

    A row tells for each letter of a word which letters may stand there, as a string. What a row stands in the
    image of, with a given cut, is a row again, of fewer letters; several letters are possible only where it
    begins and ends. So each row leads back to rows of one or two letters. What is found for a row is kept.
    """

    def __init__(self, rule):
        self.images = rule
        self.size = len(rule[0])
        self.pairs = _pair_places(rule)
        self._places = {}
        self._above = {}

    def place(self, word):
        """The least place at which a word stands, or None."""
        return 0 if word == "" else self._least(tuple(word))

    def place_with_cut(self, word, cut):
        """The least place with a cut at which a nonempty word stands, or None."""
        return self._least_with_cut(tuple(word), cut)

    def factors(self, length):
        """The ascending list of all factors of a length."""
        if length <= 2:
            return sorted(set([pair[:length] for pair in self.pairs]))
        return sorted(set([word for word, _ in self._cut_rows(length)]))

    def cut_list(self, length):
        """The ascending list of all tuples of a factor of a length, not 0, and one of its cuts."""
        return sorted(set(self._cut_rows(length)))

    def delay(self):
        """The delay of the rule, or None."""
        rows = self.cut_list(LAST_DELAY)
        most = 0
        # Of all words with different cuts, some that begin alike for longest are neighbours in the order.
        for (word, cut), (other, other_cut) in zip(rows, rows[1:]):
            if cut != other_cut:
                most = max(most, _common_length(word, other))
        return None if most == LAST_DELAY else most + 1

    def _cut_rows(self, length):
        texts = [image(self.images, word) for word in self.factors((length + self.size - 2) // self.size + 1)]
        return [(text[cut:cut + length], cut) for text in texts for cut in range(self.size)]

    def _least(self, row):
        if len(row) <= 2:
            return self._pair_place(row)
        if row not in self._places:
            places = [self._least_with_cut(row, cut) for cut in range(self.size)]
            self._places[row] = min([place for place in places if place is not None], default=None)
        return self._places[row]

    def _pair_place(self, row):
        for pair, place in self.pairs.items():
            if pair[0] in row[0] and (len(row) == 1 or pair[1] in row[1]):
                return place
        return None

    def _least_with_cut(self, row, cut):
        above = self._row_above(row, cut)
        place = None if above is None else self._least(above)
        return None if place is None else self.size * place + cut

    def _row_above(self, row, cut):
        """The row in whose image a row stands with a cut, or None."""
        above = []
        for start in range(-cut, len(row), self.size):
            letters = self._letters_above(row[max(start, 0):start + self.size], max(-start, 0))
            if letters == "":
                return None
            above.append(letters)
        return tuple(above)

    def _letters_above(self, part, index):
        """The letters in whose images a part of a row stands at an index."""
        if (part, index) not in self._above:
            self._above[(part, index)] = "".join(
                [letter for letter, word in zip(SMALL, self.images) if _stands(part, word[index:])]
            )
        return self._above[(part, index)]


def _pair_places(rule):
    """The least places of all factors of two letters, in ascending order."""
    size = len(rule[0])
    places = {rule[0][:2]: 0}
    level = list(places)
    # A pair that comes from an earlier one comes earlier itself, so each pair is found first at its least place.
    while level != []:
        onward = []
        for pair in level:
            text = image(rule, pair)
            for cut in range(size):
                if text[cut:cut + 2] not in places:
                    places[text[cut:cut + 2]] = size * places[pair] + cut
                    onward.append(text[cut:cut + 2])
        level = onward
    return places


def _stands(part, word):
    for letters, letter in zip(part, word):
        if letter not in letters:
            return False
    return True


def _common_length(word, other):
    """The number of first letters that two words have in common."""
    for index, letter in enumerate(word):
        if letter != other[index:index + 1]:
            return index
    return len(word)
