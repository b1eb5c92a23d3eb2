"""The factors of a few letters, by which the search for steps sees early what cannot be a factor."""

CONTEXT = 3
STRIDE = 8


class Windows:
    """All factors of a rule with at most `width` letters, each with its cuts as the bits of a number."""

    def __init__(self, reading):
        self.reading = reading
        self.size = reading.size
        self.longest = reading.reach - 1
        # So the words between two contexts are seen whole; and a factor of this width has only one cut.
        self.width = self.longest + 2 * CONTEXT
        self.cuts = {}
        rows = reading.lineage.cut_list(self.width)
        for end in range(1, self.width + 1):
            for word, cut in rows:
                self.cuts[word[:end]] = self.cuts.get(word[:end], 0) | 1 << cut
        self._tables = {}
        self._ends = {}
        self._beginnings = {}

    def is_factor(self, word):
        """Tell whether a word of letters of the rule is a factor."""
        return word == "" or (word in self.cuts if len(word) <= self.width else self.reading.is_factor(word))

    def between(self, left, right):
        """The short words that may stand between two words, as far as the next letters on both sides tell."""
        before = left[-CONTEXT:]
        behind = right[:CONTEXT]
        sizes = (len(before), len(behind))
        if sizes not in self._tables:
            self._tables[sizes] = self._table(sizes[0], sizes[1])
        return self._tables[sizes].get((before, behind), [])

    def ends_behind(self, part, is_begun):
        """The ends of images, the empty one too, that windows allow at the end of a part."""
        if (part, is_begun) not in self._ends:
            endings = self.reading.endings
            self._ends[(part, is_begun)] = [end for end in endings if self.allow(part + end, is_begun, True)]
        return self._ends[(part, is_begun)]

    def beginnings_before(self, part, is_ended):
        """The beginnings of images, the empty one too, that windows allow before a part."""
        if (part, is_ended) not in self._beginnings:
            rows = self.reading.beginnings
            self._beginnings[(part, is_ended)] = [row for row in rows if self.allow(row + part, True, is_ended)]
        return self._beginnings[(part, is_ended)]

    def allow(self, part, is_begun, is_ended):
        """Tell whether no window shows that a part is no factor, or has no fitting cut.

        Where it is begun, it begins with an image; where it is ended, it ends with one.
        """
        bits = self.cuts.get(part[:self.width], 0)
        if is_begun:
            bits = bits & 1
        if is_ended:
            bits = bits & (1 << -len(part) % self.size)
        if len(part) <= self.width or bits == 0:
            return bits != 0 or part == ""
        cut = bits.bit_length() - 1
        for index in range(STRIDE, len(part), STRIDE):
            bit = 1 << (cut + index) % self.size
            if self.cuts.get(part[index:index + self.width], 0) & bit == 0:
                return False
        return True

    def _table(self, many_before, many_behind):
        """The short words between each two contexts of these sizes."""
        around = many_before + many_behind
        if around == 0:
            return {("", ""): [word for word in self.cuts if len(word) <= self.longest]}
        table = {}
        for word in self.cuts:
            if around < len(word) <= around + self.longest:
                end = len(word) - many_behind
                table.setdefault((word[:many_before], word[end:]), []).append(word[many_before:end])
        return table
