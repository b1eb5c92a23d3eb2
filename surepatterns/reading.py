"""Rules with a delay, and what stands above the parts of shapes (points 21 to 23)."""

from surepatterns.alphabet import SMALL
from surepatterns.lineage import Lineage
from surepatterns.rules import need_rule
from surepatterns.wrongs import NoDelay


class Reading:
    """What is read off a rule with a delay."""

    def __init__(self, lineage, delay):
        self.lineage = lineage
        self.images = lineage.images
        self.size = lineage.size
        self.reach = max(delay, 2 * self.size - 1)
        self.letters = SMALL[:len(self.images)]
        # The choices for a capital letter that remains: ends and beginnings of images, the empty ones too.
        self.endings = _distinct([word[index:] for word in self.images for index in range(1, self.size + 1)])
        self.beginnings = _distinct([word[:index] for word in self.images for index in range(self.size)])
        self._letter_of = {word: letter for letter, word in zip(SMALL, self.images)}

    def is_factor(self, word):
        """Tell whether a word of letters of the rule is a factor."""
        return self.lineage.place(word) is not None

    def is_short(self, word):
        """Tell whether a word of letters of the rule is a short word."""
        return 0 < len(word) < self.reach and self.is_factor(word)

    def words_above(self, parts):
        """What can take the places of the parts around the capital letters: for each part a list of words.

        The first part may begin inside of an image, the last one may end inside of one.
        """
        words = [self._whole(part) for part in parts[1:-1]]
        return [self._above_first(parts[0])] + words + [self._above_last(parts[-1])]

    def _whole(self, part):
        """The list of the one word whose image a part is, or []."""
        letters = []
        for index in range(0, len(part), self.size):
            letter = self._letter_of.get(part[index:index + self.size])
            if letter is None:
                return []
            letters.append(letter)
        return ["".join(letters)]

    def _above_first(self, part):
        cut = len(part) % self.size
        words = self._whole(part[cut:])
        if cut == 0:
            return words
        return [letter + word for word in words for letter in self._letters_with(self.size - cut, part[:cut])]

    def _above_last(self, part):
        cut = len(part) - len(part) % self.size
        words = self._whole(part[:cut])
        if cut == len(part):
            return words
        return [word + letter for word in words for letter in self._letters_with(0, part[cut:])]

    def _letters_with(self, index, part):
        """The letters in whose images a part stands at an index."""
        return [letter for letter, word in zip(SMALL, self.images) if word.startswith(part, index)]


def reading_of(rule):
    """What is read off a rule; InvalidRule if any value is not a rule, NoDelay if it has no delay."""
    need_rule(rule)
    lineage = Lineage(rule)
    delay = lineage.delay()
    if delay is None:
        raise NoDelay("the rule has a factor of 12 letters with two cuts")
    return Reading(lineage, delay)


def _distinct(words):
    return sorted(set(words))
