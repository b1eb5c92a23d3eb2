"""Reachable sets of letters and closed families (points 12 and 13)."""

from surepatterns.chains import without
from surepatterns.joins import free_sets, is_letter_set
from surepatterns.patterns import letters_of, need_pattern


def reachable_sets(pattern):
    """The list of all nonempty reachable sets, the shorter ones first, those of one length in ascending order."""
    return [letters for letters in _reachable(pattern) if letters != ""]


def closed_family(pattern):
    """The list of the reachable sets if the pattern is not sure, otherwise None."""
    found = _reachable(pattern)
    return None if "" in found else found


def is_closed_family(pattern, value):
    """Tell whether any value is a closed family of the pattern."""
    need_pattern(pattern)
    if not isinstance(value, list):
        return False
    family = {}
    for letters in value:
        if not is_letter_set(pattern, letters) or letters in family:
            return False
        family[letters] = True
    if _all_letters(pattern) not in family:
        return False
    for letters in value:
        for rest in _rests(pattern, letters):
            # The empty set is in no family here, so a set of which nothing remains ends here, too.
            if rest not in family:
                return False
    return True


def _reachable(pattern):
    """All reachable sets, the empty one included, the shorter ones first."""
    found = {_all_letters(pattern): True}
    level = list(found)
    while level != []:
        onward = [rest for letters in level for rest in _rests(pattern, letters)]
        level = sorted(set([rest for rest in onward if rest not in found]))
        for letters in level:
            found[letters] = True
    return sorted(found, key=_size_first)


def _size_first(letters):
    return (len(letters), letters)


def _all_letters(pattern):
    return "".join(sorted(letters_of(pattern)))


def _rests(pattern, letters):
    """What remains of a set of letters without each set that is free in the restriction to it."""
    if letters == "":
        return []
    restricted = "".join([letter for letter in pattern if letter in letters])
    return [without(letters, free) for free in free_sets(restricted)]
