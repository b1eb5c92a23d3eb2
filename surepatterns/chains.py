"""Deletions, chains, sure patterns and their indexes (point 9)."""

from surepatterns.joins import free_sets, is_free, is_letter_set, need_letters
from surepatterns.patterns import need_pattern


def delete(pattern, letters):
    """The pattern without the letters of a set, perhaps the empty string."""
    need_letters(pattern, letters)
    return without(pattern, letters)


def is_chain(pattern, value):
    """Tell whether any value is a chain of the pattern."""
    need_pattern(pattern)
    if not isinstance(value, list):
        return False
    rest = pattern
    for letters in value:
        # Nothing is a set of letters of the empty rest, so a chain that goes on too long ends here.
        if not is_letter_set(rest, letters) or not is_free(rest, letters):
            return False
        rest = without(rest, letters)
    return rest == ""


def shortest_chain(pattern):
    """The chain with the fewest sets, the least one if there are several, or None."""
    need_pattern(pattern)
    return _best_chain(pattern, {"": []})


def index_of(pattern):
    """The least number of sets in a chain, or None."""
    chain = shortest_chain(pattern)
    return None if chain is None else len(chain)


def is_sure(pattern):
    """Tell whether the pattern has a chain."""
    return shortest_chain(pattern) is not None


def without(pattern, letters):
    """The pattern without some letters, where both are known to be right."""
    return "".join([letter for letter in pattern if letter not in letters])


def _best_chain(pattern, known):
    # Many orders of deletions leave the same rest; the answer for it is kept.
    if pattern not in known:
        chains = []
        for letters in free_sets(pattern):
            rest = _best_chain(without(pattern, letters), known)
            if rest is not None:
                chains.append([letters] + rest)
        known[pattern] = _least(chains)
    return known[pattern]


def _least(chains):
    if chains == []:
        return None
    fewest = min([len(chain) for chain in chains])
    return min([chain for chain in chains if len(chain) == fewest])
