"""Things sought in a box, with the tree of tries that shows that none is left out."""

from cellships.cells import moved
from cellships.maybes import maybe_after, state_of
from cellships.rules import refuse_loud
from cellships.trees import cells_of_box, forms_of, refuse_no_box


def cell_to_cut(rule, many, move, live, open_cells):
    """A cell that shows that none of these pictures is itself moved after so many turns, or None."""
    later_live, later_open = maybe_after(rule, live, open_cells, many)
    for cell in moved(live, move):
        if state_of(later_live, later_open, cell) is False:
            return cell
    for cell in later_live:
        source = (cell[0] - move[0], cell[1] - move[1])
        if state_of(live, open_cells, source) is False:
            return cell
    return None


def sought(rule, many, move, live, open_cells):
    """The things among these pictures, and a tree, as a tuple."""
    cell = cell_to_cut(rule, many, move, live, open_cells)
    if cell is not None:
        return ([], ("cut", cell))
    if not open_cells:
        # All is known, and nothing is unlike: so it is a thing, or has no cells.
        return ([live] if live else [], ("found",))
    first, rest = open_cells[0], open_cells[1:]
    without, dead = sought(rule, many, move, live, rest)
    # The open cells are taken rising, so the live ones rise, too.
    beside, alive = sought(rule, many, move, live + [first], rest)
    return (without + beside, ("try", first, dead, alive))


def seek(rule, size, many, move):
    """The forms of all things in a box, and a tree of tries that bears them out, as a tuple."""
    refuse_loud(rule)
    refuse_no_box(size)
    things, tree = sought(rule, many, move, [], cells_of_box(size))
    return (forms_of(rule[0], things), tree)
