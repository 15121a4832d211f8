"""Trees of tries: papers that no thing in a box is left out."""

from cellships.cells import is_cell, is_pair, moved
from cellships.errors import NoSize
from cellships.forms import form
from cellships.maybes import maybe_after, state_of
from cellships.planes import after
from cellships.rules import refuse_loud

MOST_TRIES = 9
MOST_CELLS = 9


def is_tree_within(thing, tries):
    """Whether anything is a tree with at most so many tries one within another."""
    if not isinstance(thing, tuple) or not thing or not isinstance(thing[0], str):
        return False
    if thing[0] == "found":
        return len(thing) == 1
    if thing[0] == "cut":
        return len(thing) == 2 and is_cell(thing[1])
    if thing[0] != "try" or len(thing) != 4 or tries == 0 or not is_cell(thing[1]):
        return False
    return is_tree_within(thing[2], tries - 1) and is_tree_within(thing[3], tries - 1)


def is_tree(thing):
    """Whether anything is a tree of tries."""
    return is_tree_within(thing, MOST_TRIES)


def is_box_size(thing):
    """Whether anything is the size of a box in which things are sought."""
    return is_pair(thing) and thing[0] >= 1 and thing[1] >= 1 and thing[0] * thing[1] <= MOST_CELLS


def refuse_no_box(size):
    """Refuse what is no size of a box in which things are sought."""
    if not is_box_size(size):
        raise NoSize("a box's size is a tuple of two whole numbers from 1 on, nine cells at most")


def cells_of_box(size):
    """The picture of all cells of a box."""
    return [(x, y) for x in range(size[0]) for y in range(size[1])]


def forms_of(kind, things):
    """The forms of pictures, rising, each once."""
    return [list(cells) for cells in sorted({tuple(form(kind, thing)) for thing in things})]


def holds_cut(rule, many, move, cell, live, open_cells):
    """Whether a cell shows that no picture that is one of these is itself moved after so many turns."""
    later_live, later_open = maybe_after(rule, live, open_cells, many)
    later = state_of(later_live, later_open, cell)
    source = (cell[0] - move[0], cell[1] - move[1])
    ahead = state_of(live, open_cells, source)
    return later is not None and ahead is not None and later != ahead


def things_of(rule, many, move, tree, live, open_cells):
    """The things at the founds of a tree, or None where it is not as it must be."""
    if tree[0] == "cut":
        return [] if holds_cut(rule, many, move, tree[1], live, open_cells) else None
    if tree[0] == "found":
        if open_cells or after(rule, live, many) != moved(live, move):
            return None
        return [live] if live else []
    word, cell, dead, alive = tree
    if cell not in open_cells:
        return None
    rest = [other for other in open_cells if other != cell]
    without = things_of(rule, many, move, dead, live, rest)
    if without is None:
        return None
    beside = things_of(rule, many, move, alive, sorted(live + [cell]), rest)
    return None if beside is None else without + beside


def holds_tree(rule, size, many, move, tree, forms):
    """Whether a tree bears out that a list holds the forms of all things in the box."""
    refuse_loud(rule)
    refuse_no_box(size)
    things = things_of(rule, many, move, tree, [], cells_of_box(size))
    return things is not None and forms == forms_of(rule[0], things)
