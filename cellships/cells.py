"""Cells and pictures: what they are, and how they are moved, joined and boxed."""


def is_whole(thing):
    """Whether a thing is a whole number."""
    # For Python True and False are ints, too.
    return isinstance(thing, int) and not isinstance(thing, bool)


def is_pair(thing):
    """Whether anything is a tuple of two whole numbers."""
    return isinstance(thing, tuple) and len(thing) == 2 and is_whole(thing[0]) and is_whole(thing[1])


def is_cell(thing):
    """Whether anything is a cell."""
    return is_pair(thing) and abs(thing[0]) < 10 ** 60 and abs(thing[1]) < 10 ** 60


def is_picture(thing):
    """Whether anything is a picture."""
    if not isinstance(thing, list) or not all([is_cell(cell) for cell in thing]):
        return False
    return all([one < other for one, other in zip(thing, thing[1:])])


def picture(cells):
    """The picture of cells in any order, perhaps some several times."""
    return sorted(set(cells))


def moved(picture, move):
    """The picture moved by a move."""
    dx, dy = move
    # All cells are moved alike, so they go on rising.
    return [(x + dx, y + dy) for x, y in picture]


def put_together(one, other):
    """The picture of all cells of two pictures."""
    return picture(one + other)


def box_of(picture):
    """The box (least x, least y, wide, high) of a picture, None where it has no cells."""
    if not picture:
        return None
    columns = [x for x, y in picture]
    rows = [y for x, y in picture]
    left, top = min(columns), min(rows)
    return (left, top, max(columns) - left + 1, max(rows) - top + 1)


def at_nought(picture):
    """The picture moved so that its least x and its least y are 0."""
    box = box_of(picture)
    if box is None:
        return []
    return moved(picture, (-box[0], -box[1]))
