"""Fathers: what becomes a picture in a box at the next turn, or a paper that nothing does."""

from cellships.cells import is_pair, moved
from cellships.errors import NoSize, Outside
from cellships.planes import counts
from cellships.rows import centres, picture_of, rows_below, rows_of
from cellships.rules import comes

MOST_COLUMNS = 3
MOST_ROWS = 6
MOST_CELLS = 9


def is_father_size(thing):
    """Whether anything is the size of a box for which fathers are sought."""
    if not is_pair(thing):
        return False
    wide, high = thing
    return 1 <= wide <= MOST_COLUMNS and 1 <= high <= MOST_ROWS and wide * high <= MOST_CELLS


def is_within(cell, least, size):
    """Whether both numbers of a cell are from a least one to below those of a size."""
    return least <= cell[0] < size[0] and least <= cell[1] < size[1]


def refuse_no_child(size, picture):
    """Refuse what is no size of a box for fathers, then a picture with a cell outside of it."""
    if not is_father_size(size):
        raise NoSize("a box's size is a tuple of 1 to 3 columns and 1 to 6 rows, nine cells at most")
    if not all([is_within(cell, 0, size) for cell in picture]):
        raise Outside("a cell is outside of the box")


def holds_father(rule, size, picture, other):
    """Whether the other picture is a father of the picture for the box."""
    refuse_no_child(size, picture)
    wide, high = size
    if not all([is_within(cell, -1, (wide + 1, high + 1)) for cell in other]):
        return False
    living = {cell: True for cell in other}
    tally = counts(rule[0], other)
    cells = [(x, y) for x in range(wide) for y in range(high)]
    return [cell for cell in cells if comes(rule, cell in living, tally.get(cell, 0))] == picture


def thirds(amid, wide, one, two, wanted):
    """The rows of wide + 2 columns that, below two others, let the second one become the wanted row of the box."""
    # Column 0 of the box is the second one of a father's row.
    return rows_below(amid, one, two, wanted << 1, [True] * (wide + 2))


def all_pairs(wide):
    """All pairs of rows of wide + 2 columns."""
    many = 1 << (wide + 2)
    return [(one, two) for one in range(many) for two in range(many)]


def pairs_by_row(rule, size, picture):
    """For each row of the box a dict of the pairs (that row, the next) that can stand, with the pair ahead of each."""
    amid = centres(rule)
    ahead = all_pairs(size[0])
    found = []
    for wanted in rows_of(size, picture):
        pairs = {}
        for one, two in ahead:
            for three in thirds(amid, size[0], one, two, wanted):
                pairs[(two, three)] = (one, two)
        found.append(pairs)
        ahead = list(pairs)
    return found


def rows_back(found):
    """The rows of a father, from above, by the pairs that can stand for each row of the box."""
    pair = list(found[-1])[0]
    rows = [pair[1], pair[0]]
    for pairs in reversed(found):
        pair = pairs[pair]
        rows.append(pair[0])
    return rows[::-1]


def father(rule, size, picture):
    """A father of a picture for a box, or the lists that show that there is none."""
    refuse_no_child(size, picture)
    found = pairs_by_row(rule, size, picture)
    if not found[-1]:
        return ("none", [sorted(pairs) for pairs in found])
    return ("father", moved(picture_of(rows_back(found)), (-1, -1)))


def are_followed(amid, wide, ahead, wanted, pairs):
    """Whether a list has all pairs that come behind those ahead, where the row between becomes the wanted one."""
    many = 1 << (wide + 2)
    held = {pair: True for pair in pairs}
    for one, two in ahead:
        if 0 <= one < many and 0 <= two < many:
            if not all([(two, three) in held for three in thirds(amid, wide, one, two, wanted)]):
                return False
    return True


def holds_none(rule, size, picture, lists):
    """Whether lists show that a picture has no father for the box."""
    refuse_no_child(size, picture)
    wide, high = size
    if len(lists) != high or lists[-1]:
        return False
    amid = centres(rule)
    ahead = all_pairs(wide)
    for wanted, pairs in zip(rows_of(size, picture), lists):
        if not are_followed(amid, wide, ahead, wanted, pairs):
            return False
        ahead = pairs
    return True
