"""Shapes, and choices for their capital letters written as pieces to put in (points 22 and 23).

The piece of a choice (word,) is this word, the one of (end, beginning) is the end, a dot and the beginning. So
where all pieces are put into a shape, the dots stand in the places of the capital letters that remain.
"""

from surepatterns.alphabet import CAPITALS, distinct

DOT = "."
LONGEST_SHAPE = 60


def capitals_of(shape):
    """The different capital letters of a shape, in the order of their first occurrences."""
    return distinct([letter for letter in shape if letter in CAPITALS])


def blocks_of(shape):
    """The rows of small letters before, between and behind the capital letters of a shape."""
    return "".join([DOT if letter in CAPITALS else letter for letter in shape]).split(DOT)


def pieces_of(shape, choices):
    """The pieces of choices for a shape, a dict."""
    return {capital: DOT.join(choice) for capital, choice in zip(capitals_of(shape), choices)}


def choices_of(shape, pieces):
    """The choices that pieces for a shape tell."""
    return tuple([tuple(pieces[capital].split(DOT)) for capital in capitals_of(shape)])


def put_in(shape, pieces):
    """The shape, or a part of it, with the pieces in the places of its capital letters."""
    # No piece has a capital letter, so none is replaced in what was put in before.
    for capital, piece in pieces.items():
        shape = shape.replace(capital, piece)
    return shape


def remaining(shape, pieces):
    """The list of the capital letters that remain, one for each place."""
    return [letter for letter in shape if DOT in pieces.get(letter, "")]


def woven(words, capitals):
    """All shapes that have one of some words before, between and behind the capital letters each."""
    shapes = [""]
    for some, capital in zip(words, capitals + [""]):
        shapes = [shape + word + capital for shape in shapes for word in some]
    return [shape for shape in shapes if len(shape) <= LONGEST_SHAPE]
