"""Occurrences of sure patterns in standard words, by a chain (point 11)."""

from surepatterns.alphabet import SMALL
from surepatterns.chains import is_chain, shortest_chain, without
from surepatterns.errors import InvalidChain, NotSure
from surepatterns.joins import joined
from surepatterns.patterns import letters_of, value_of


def occurrence_by_chain(pattern, chain):
    """An occurrence in the standard word whose number is the number of sets in the chain."""
    if not is_chain(pattern, chain):
        raise InvalidChain("this is not a chain of the pattern")
    return _occurrence(pattern, chain)


def occurrence_in_standard(pattern):
    """An occurrence of a sure pattern in the standard word whose number is its index."""
    chain = shortest_chain(pattern)
    if chain is None:
        raise NotSure("the pattern has no chain")
    return _occurrence(pattern, chain)


def _occurrence(pattern, chain):
    start, words = _laid_out(pattern, chain)
    assignment = tuple([words[letter] for letter in letters_of(pattern)])
    return (start, start + len(value_of(pattern, assignment)), assignment)


def _laid_out(pattern, chain):
    """The start of an occurrence and its words, a dict."""
    if chain == []:
        return 0, {}
    place, inner = _laid_out(without(pattern, chain[0]), chain[1:])
    at_ends, at_beginnings = _carriers(pattern, chain[0])
    words = {letter: "a" for letter in chain[0]}
    for letter in inner:
        before = "a" if letter in at_beginnings else ""
        behind = "a" if letter in at_ends else ""
        words[letter] = before + _spread(inner[letter]) + behind
    # The letter at an index i of the inner word comes to the index 2 i + 1, behind an inserted a.
    start = 2 * place if pattern[0] in at_beginnings else 2 * place + 1
    return start, words


def _carriers(pattern, letters):
    """The letters whose ends and the letters whose beginnings carry the inserted a."""
    at_ends = ""
    at_beginnings = ""
    for ends, beginnings in joined(pattern):
        if [letter for letter in ends if letter in letters] != []:
            at_ends += ends
        else:
            at_beginnings += beginnings
    return at_ends, at_beginnings


def _spread(word):
    """The word with each letter renamed one further and the letter a between all."""
    return "a".join([SMALL[SMALL.index(letter) + 1] for letter in word])
