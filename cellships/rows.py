"""Rows of pictures, told as whole numbers: column x, where it lives, counts 1 doubled x times."""

from cellships.forms import offsets
from cellships.rules import comes


def rows_of(size, picture):
    """The rows, from above, of a picture whose cells are in the box of this size."""
    wide, high = size
    rows = [0 for y in range(high)]
    for x, y in picture:
        rows[y] += 1 << x
    return rows


def picture_of(rows):
    """The picture of rows that are told from above."""
    cells = [(x, y) for y, row in enumerate(rows) for x in range(row.bit_length()) if (row >> x) & 1]
    return sorted(cells)


def comes_amid(rule, lines, x):
    """Whether what is at column x of the second one of three rows lives at the next turn, x from 1 on."""
    count = sum([(lines[1 + dy] >> (x + dx)) & 1 for dx, dy in offsets(rule[0])])
    return comes(rule, (lines[1] >> x) & 1 == 1, count)


def middle(rule, wide, above, row, below):
    """What comes in the place of a row between two others, with nothing on either side."""
    # Shifted by one column, so that column 0 has a neighbour to ask on its left, too.
    lines = (above << 1, row << 1, below << 1)
    return sum([1 << x for x in range(wide) if comes_amid(rule, lines, x + 1)])


def centres(rule):
    """For each three rows of three columns whether the cell amid them lives at the next turn, as 1 or 0."""
    nines = [(above, row, below) for above in range(8) for row in range(8) for below in range(8)]
    return {nine: 1 if comes_amid(rule, nine, 1) else 0 for nine in nines}


def rows_below(amid, above, row, wanted, free):
    """The rows, rising, that below two others let the second one become the wanted row.

    amid is what centres tells; free tells of each column whether it may live in those rows; the first and
    the last column are there to be asked alone, so what they become isn't looked at.
    """
    found = [0]
    for column, may_live in enumerate(free):
        if may_live:
            found = [line + more for more in (0, 1 << column) for line in found]
        if column >= 2:
            # What the column on the left becomes is decided as soon as this one is chosen.
            x = column - 2
            one, two, lives = (above >> x) & 7, (row >> x) & 7, (wanted >> (x + 1)) & 1
            found = [line for line in found if amid[(one, two, line >> x)] == lives]
    return found
