"""Parts: pictures that never touch for so many turns, and the joins that bear them out."""

from cellships.forms import offsets
from cellships.planes import next_turn
from cellships.rules import refuse_loud


def hangs_on(kind, cell):
    """The cells on which a cell hangs, itself and its neighbours, rising."""
    x, y = cell
    return sorted([cell] + [(x + dx, y + dy) for dx, dy in offsets(kind)])


class Groups:
    """The groups of a picture's cells, at one turn after another."""

    def __init__(self, picture):
        self.seeds = list(picture)
        self.heads = list(range(len(picture)))
        self.begin(list(picture), {cell: at for at, cell in enumerate(picture)})

    def begin(self, living, owners):
        """Take up a turn: its living cells, and of each a member of the group that it belongs to."""
        self.living = living
        self.owners = owners

    def head(self, member):
        """The one member by which its group is told from others."""
        heads = self.heads
        while heads[member] != member:
            heads[member] = heads[heads[member]]
            member = heads[member]
        return member

    def groups_at(self, cells):
        """The heads of the groups to which living cells belong, rising, each once."""
        return sorted({self.head(self.owners[cell]) for cell in cells})

    def join_at(self, cells):
        """Make one group of all groups to which living cells belong; whether these were two at least."""
        found = self.groups_at(cells)
        for head in found[1:]:
            self.heads[head] = found[0]
        return len(found) > 1

    def parts_now(self):
        """The groups' cells at turn 0, sorted by their first cells."""
        cells_of = {}
        for at, cell in enumerate(self.seeds):
            cells_of.setdefault(self.head(at), []).append(cell)
        return list(cells_of.values())


def hung_cells(kind, living):
    """For each cell that hangs on living ones the list of these."""
    around = offsets(kind)
    hung = {cell: [cell] for cell in living}
    # A cell is a neighbour of its neighbours, so it is they that hang on it.
    for x, y in living:
        for dx, dy in around:
            hung.setdefault((x + dx, y + dy), []).append((x, y))
    return hung


def go_on(groups, rule, hung):
    """Go to the next turn, where no cell hangs on living cells of two groups."""
    living = next_turn(rule, groups.living)
    groups.begin(living, {cell: groups.owners[hung[cell][0]] for cell in living})


def parts(rule, picture, many):
    """The smallest parts of a picture for so many turns, and joins that bear them out, as a tuple."""
    refuse_loud(rule)
    groups = Groups(picture)
    joins = []
    for turn in range(many):
        hung = hung_cells(rule[0], groups.living)
        for cell, near in hung.items():
            if groups.join_at(near):
                joins.append((turn, cell))
        go_on(groups, rule, hung)
    return (groups.parts_now(), joins)


def holds_joins(groups, hung, cells):
    """Whether each of some joins makes one group of several, and behind them no cell hangs on two."""
    for cell in cells:
        if not groups.join_at(hung.get(cell, [])):
            return False
    return all([len(groups.groups_at(near)) == 1 for near in hung.values()])


def holds_parts(rule, picture, many, parts, joins):
    """Whether joins bear out parts of a picture for so many turns."""
    refuse_loud(rule)
    turns = [turn for turn, cell in joins]
    if turns != sorted(turns) or not all([0 <= turn < many for turn in turns]):
        return False
    groups = Groups(picture)
    for number in range(many):
        hung = hung_cells(rule[0], groups.living)
        if not holds_joins(groups, hung, [cell for turn, cell in joins if turn == number]):
            return False
        go_on(groups, rule, hung)
    return parts == groups.parts_now()
