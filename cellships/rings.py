"""Rings: worlds where beyond an end one comes in at the other."""

from cellships.cells import box_of, is_pair
from cellships.errors import Folded, NoSize
from cellships.forms import offsets
from cellships.planes import living_next


def is_ring_size(thing):
    """Whether anything is the size of a ring."""
    return is_pair(thing) and 3 <= thing[0] <= 40 and 3 <= thing[1] <= 40


def refuse_no_ring(size):
    """Refuse what is no size of a ring."""
    if not is_ring_size(size):
        raise NoSize("a ring's size is a tuple of two whole numbers from 3 to 40")


def ring_moved(size, picture, move):
    """The picture moved on the ring."""
    refuse_no_ring(size)
    wide, high = size
    dx, dy = move
    return sorted([((x + dx) % wide, (y + dy) % high) for x, y in picture])


def wrapped(size, picture):
    """The picture of the plane on the ring, refused where two cells become one."""
    cells = ring_moved(size, picture, (0, 0))
    if len(set(cells)) < len(cells):
        raise Folded("two cells become one on this ring")
    return cells


def ring_counts(kind, size, picture):
    """How many living neighbours each cell of the ring has, perhaps none."""
    wide, high = size
    around = offsets(kind)
    tally = {(x, y): 0 for x in range(wide) for y in range(high)}
    for x, y in picture:
        for dx, dy in around:
            tally[((x + dx) % wide, (y + dy) % high)] += 1
    return tally


def ring_next(rule, size, picture):
    """The next turn of a picture of the ring, by any rule."""
    refuse_no_ring(size)
    return living_next(rule, picture, ring_counts(rule[0], size, picture))


def ring_after(rule, size, picture, many):
    """The turn of a picture of the ring with this number."""
    refuse_no_ring(size)
    now = list(picture)
    for turn in range(many):
        now = ring_next(rule, size, now)
    return now


def enough(picture, many):
    """The least size of a ring that shows for so many turns what the plane shows."""
    box = box_of(picture)
    wide, high = (0, 0) if box is None else box[2:]
    # A turn lets the box grow by one cell at most, on each of its four sides.
    return (max(3, wide + 2 * many), max(3, high + 2 * many))
