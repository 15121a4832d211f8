"""Fates on rings."""

from cellships.rings import refuse_no_ring, ring_moved, ring_next
from cellships.rows import rows_of
from cellships.rules import is_quiet


def pushed(wide, row):
    """A row of a ring moved by one column."""
    return (row << 1) % (1 << wide) + (row >> (wide - 1))


def ring_key(size, picture):
    """What a picture has in common with just those that are it moved on the ring, fit for a dict's key."""
    wide, high = size
    rows = rows_of(size, picture)
    least = rows
    # Rows as numbers, as so many moves of all cells one by one would take long.
    for dx in range(wide):
        least = min([least] + [rows[dy:] + rows[:dy] for dy in range(high)])
        rows = [pushed(wide, row) for row in rows]
    return tuple(least)


def least_ring_move(size, one, other):
    """The least move that takes a picture to one that is it moved on the ring."""
    wide, high = size
    for dx in range(wide):
        for dy in range(high):
            if ring_moved(size, one, (dx, dy)) == other:
                return (dx, dy)
    return None


def ring_fate(rule, size, picture, most):
    """What becomes of a picture on a ring by turn most: gone, come again, or neither."""
    refuse_no_ring(size)
    seen = {}
    now = picture
    for turn in range(most + 1):
        if turn > 0:
            now = ring_next(rule, size, now)
        # By a loud rule cells may be born where none lives, so nothing is gone for good.
        if not now and is_quiet(rule):
            return ("gone", turn)
        key = ring_key(size, now)
        if key in seen:
            first, earlier = seen[key]
            return ("comes", first, turn - first, least_ring_move(size, earlier, now))
        seen[key] = (turn, now)
    return ("on",)
