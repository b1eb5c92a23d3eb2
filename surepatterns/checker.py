"""The checker of certificates (point 18)."""

from surepatterns.chains import is_chain
from surepatterns.closed import is_closed_family
from surepatterns.errors import NotACertificate
from surepatterns.integers import is_integer, is_integer_from
from surepatterns.occurrences import meets
from surepatterns.patterns import is_assignment, need_pattern, need_word, put_together
from surepatterns.standard import standard_word

ENTRIES = {"meets": 5, "chain": 3, "closed": 3, "standard": 5, "avoids": 3}
LAST_NUMBER = 10


def check(certificate):
    """The tuple ("right",), or ("wrong", k) with the number k of the first condition that does not hold."""
    if not _has_form(certificate):
        raise NotACertificate("a certificate is a tuple of one of the five forms")
    need_pattern(certificate[1])
    conditions = _conditions(certificate)
    if False in conditions:
        return ("wrong", conditions.index(False))
    return ("right",)


def _has_form(value):
    if not isinstance(value, tuple) or value == () or not isinstance(value[0], str):
        return False
    return value[0] in ENTRIES and len(value) == ENTRIES[value[0]]


def _conditions(certificate):
    """Whether each condition holds, at least up to the first one that does not hold."""
    kind, pattern = certificate[0], certificate[1]
    if kind == "meets":
        return _meets(pattern, certificate[2], certificate[3], certificate[4])
    if kind == "chain":
        return [is_chain(pattern, certificate[2])]
    if kind == "closed":
        return [is_closed_family(pattern, certificate[2])]
    if kind == "standard":
        return _standard(pattern, certificate[2], certificate[3], certificate[4])
    return [not meets(pattern, certificate[2])]


def _meets(pattern, word, start, assignment):
    need_word(word)
    if not is_integer_from(start, 0, len(word)) or not is_assignment(pattern, assignment):
        return [False]
    return [True, _stands(put_together(pattern, assignment), word, start)]


def _standard(pattern, number, start, assignment):
    is_place = is_integer(start) and start >= 0
    if not is_integer_from(number, 0, LAST_NUMBER) or not is_place or not is_assignment(pattern, assignment):
        return [False]
    return [True, _stands(put_together(pattern, assignment), standard_word(number), start)]


def _stands(value, word, start):
    return word[start:start + len(value)] == value
