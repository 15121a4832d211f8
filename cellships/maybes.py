"""What may come, where it isn't known of some cells whether they live."""

from cellships.planes import counts
from cellships.rules import comes, refuse_loud


def maybe_comes(rule, state, low, high):
    """What comes of a cell (True, False or None, either) with from low to high many living neighbours."""
    states = (True, False) if state is None else (state,)
    told = [comes(rule, alive, count) for alive in states for count in range(low, high + 1)]
    if all(told):
        return True
    return None if any(told) else False


def state_of(live, open_cells, cell):
    """Whether a cell lives: True, False, or None where it is open."""
    if cell in live:
        return True
    return None if cell in open_cells else False


def cases_now(kind, live, open_cells):
    """For each cell that may live next its state, and the least and the greatest count of its neighbours."""
    states = {cell: None for cell in open_cells}
    for cell in live:
        states[cell] = True
    sure, perhaps = counts(kind, live), counts(kind, open_cells)
    near = dict(states)
    near.update(sure)
    near.update(perhaps)
    cases = {}
    for cell in near:
        low = sure.get(cell, 0)
        cases[cell] = (states.get(cell, False), low, low + perhaps.get(cell, 0))
    return cases


def maybe_next(rule, live, open_cells):
    """The next turn, as a tuple (live, open), of live and open cells."""
    refuse_loud(rule)
    # A cell's state and its neighbours' may be chosen freely, so it may become what any of the counts tells.
    cases = cases_now(rule[0], live, open_cells)
    told = {}
    for case in cases.values():
        if case not in told:
            state, low, high = case
            told[case] = maybe_comes(rule, state, low, high)
    next_live = sorted([cell for cell, case in cases.items() if told[case] is True])
    next_open = sorted([cell for cell, case in cases.items() if told[case] is None])
    return (next_live, next_open)


def maybe_after(rule, live, open_cells, many):
    """What may come after so many turns, as a tuple (live, open)."""
    refuse_loud(rule)
    now = (list(live), list(open_cells))
    for turn in range(many):
        now = maybe_next(rule, now[0], now[1])
    return now
