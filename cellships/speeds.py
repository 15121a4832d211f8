"""How fast things can go: heights along a way, and how much a rule lets them grow."""

from cellships.forms import offsets
from cellships.rules import refuse_loud


def cell_height(cell, way):
    """The height of a cell along a way."""
    return way[0] * cell[0] + way[1] * cell[1]


def height(picture, way):
    """The greatest height along a way of a picture with cells."""
    return max([cell_height(cell, way) for cell in picture])


def lowest_parents(rule, way):
    """The lowest neighbours along a way of which a cell at (0, 0) is born, perhaps none."""
    kind, born, stay = rule
    if not born:
        return []
    rising = sorted(offsets(kind), key=lambda offset: cell_height(offset, way))
    return rising[:born[0]]


def growth(rule, way):
    """How much higher the next turn can be at most."""
    refuse_loud(rule)
    parents = lowest_parents(rule, way)
    return max(0, -height(parents, way)) if parents else 0


def shows_too_fast(rule, many, move, way):
    """Whether a way shows that no picture is itself moved so far after so many turns."""
    return cell_height(move, way) > many * growth(rule, way)


def too_fast(rule, many, move):
    """A way that shows that a move is too fast, with numbers from -4 to 4, or None."""
    refuse_loud(rule)
    for a in range(-4, 5):
        for b in range(-4, 5):
            if shows_too_fast(rule, many, move, (a, b)):
                return (a, b)
    return None


def grower(rule, way):
    """A picture whose next turn is higher by the growth, or None where this is 0."""
    if growth(rule, way) == 0:
        return None
    # These bear the cell at (0, 0), and no cell can be born higher above them.
    return sorted(lowest_parents(rule, way))
