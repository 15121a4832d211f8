"""Rows of pictures, told as whole numbers: column x, where it lives, counts 1 doubled x times."""

from cellships.forms import offsets
from cellships.rules import comes


def rows_of(size, picture):
    """The rows, from above, of a picture whose cells are in the box of this size."""
    wide, high = size
    rows = [0 for y in range(high)]
    for x, y in picture:
        rows[y] += 1 << x
    return rows


def picture_of(rows):
    """The picture of rows that are told from above."""
    cells = [(x, y) for y, row in enumerate(rows) for x in range(row.bit_length()) if (row >> x) & 1]
    return sorted(cells)


def middle(rule, wide, above, row, below):
    """What comes in the place of a row between two others, with nothing on either side."""
    # Shifted by one column, so that column 0 has a neighbour to ask on its left, too.
    lines = (above << 1, row << 1, below << 1)
    around = offsets(rule[0])
    told = 0
    for x in range(wide):
        count = sum([(lines[1 + dy] >> (x + 1 + dx)) & 1 for dx, dy in around])
        if comes(rule, (row >> x) & 1 == 1, count):
            told += 1 << x
    return told
