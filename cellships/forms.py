"""Kinds of neighbours, their turnings, and the forms of pictures."""

from cellships.cells import at_nought

OFFSETS = {
    4: ((-1, 0), (0, -1), (0, 1), (1, 0)),
    6: ((-1, -1), (-1, 0), (0, -1), (0, 1), (1, 0), (1, 1)),
    8: ((-1, -1), (-1, 0), (-1, 1), (0, -1), (0, 1), (1, -1), (1, 0), (1, 1)),
}

# Written out, as forms ask for them again and again.
SQUARE_TURNINGS = (
    (-1, 0, 0, -1), (-1, 0, 0, 1), (0, -1, -1, 0), (0, -1, 1, 0),
    (0, 1, -1, 0), (0, 1, 1, 0), (1, 0, 0, -1), (1, 0, 0, 1),
)
SIX_TURNINGS = (
    (-1, 0, -1, 1), (-1, 0, 0, -1), (-1, 1, -1, 0), (-1, 1, 0, 1),
    (0, -1, -1, 0), (0, -1, 1, -1), (0, 1, -1, 1), (0, 1, 1, 0),
    (1, -1, 0, -1), (1, -1, 1, 0), (1, 0, 0, 1), (1, 0, 1, -1),
)


def offsets(kind):
    """The offsets of a kind, rising."""
    return list(OFFSETS[kind])


def turnings(kind):
    """The turnings of a kind, rising."""
    return list(SIX_TURNINGS if kind == 6 else SQUARE_TURNINGS)


def turned(picture, turning):
    """The picture turned, or mirrored, cell by cell."""
    a, b, c, d = turning
    return sorted([(a * x + b * y, c * x + d * y) for x, y in picture])


def form(kind, picture):
    """The least of the pictures to which this one can be turned and laid at nought."""
    return min([at_nought(turned(picture, turning)) for turning in turnings(kind)])


def are_alike(kind, one, other):
    """Whether one picture can be turned and moved to the other."""
    return form(kind, one) == form(kind, other)
