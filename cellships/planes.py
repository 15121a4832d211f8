"""Turns of pictures on the plane."""

from cellships.forms import offsets
from cellships.rules import comes, refuse_loud


def counts(kind, picture):
    """How many living neighbours each cell has that has any."""
    around = offsets(kind)
    tally = {}
    # With each offset its opposite is one, so a cell is a neighbour of its neighbours.
    for x, y in picture:
        for dx, dy in around:
            cell = (x + dx, y + dy)
            tally[cell] = tally.get(cell, 0) + 1
    return tally


def watched(kind, picture):
    """The counts of all cells that may live at the next turn by a quiet rule."""
    tally = counts(kind, picture)
    # A living cell without living neighbours may stay.
    for cell in picture:
        tally.setdefault(cell, 0)
    return tally


def living_next(rule, picture, tally):
    """Those of the tallied cells that live at the next turn."""
    living = {cell: True for cell in picture}
    return sorted([cell for cell, count in tally.items() if comes(rule, cell in living, count)])


def next_turn(rule, picture):
    """The next turn of a picture on the plane."""
    refuse_loud(rule)
    return living_next(rule, picture, watched(rule[0], picture))


def after(rule, picture, many):
    """The turn of a picture with this number."""
    refuse_loud(rule)
    now = list(picture)
    for turn in range(many):
        now = next_turn(rule, now)
    return now
