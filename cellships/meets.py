"""Things that come again, and whether two of them ever meet."""

from cellships.cells import box_of, moved
from cellships.errors import NoThing
from cellships.fates import fate, turns
from cellships.forms import offsets
from cellships.parts import hangs_on
from cellships.planes import next_turn
from cellships.rules import refuse_loud
from cellships.speeds import cell_height, height

# So many turns a thing has to come again.
LONGEST_ROUND = 6
WAYS = ((-1, 0), (0, -1), (0, 1), (1, 0))


def close_cells(one, other):
    """Those cells of one picture that are at most two away, either way, from the box of the other."""
    if not other:
        return []
    left, top, wide, high = box_of(other)
    return [(x, y) for x, y in one if -2 <= x - left <= wide + 1 and -2 <= y - top <= high + 1]


def touch(kind, one, other):
    """Whether a cell hangs on living cells of both pictures."""
    # Most cells of things that are apart are far from the other one, and need not be looked at.
    close = close_cells(one, other)
    held = {near: True for cell in close for near in hangs_on(kind, cell)}
    for cell in close_cells(other, close):
        if any([near in held for near in hangs_on(kind, cell)]):
            return True
    return False


def first_touch(rule, one, other, most):
    """The first turn up to most at which a cell hangs on living cells of both, each having gone alone, or None."""
    refuse_loud(rule)
    for turn in range(most + 1):
        if turn > 0:
            one, other = next_turn(rule, one), next_turn(rule, other)
        if touch(rule[0], one, other):
            return turn
    return None


def thing_of(rule, picture):
    """A thing: its turns up to where it comes again, and the move by which it does, as a tuple."""
    told = fate(rule, picture, LONGEST_ROUND)
    if told[0] != "comes" or told[1] != 0:
        raise NoThing("this picture doesn't come again within six turns")
    return (turns(rule, picture, told[2] - 1), told[3])


def thing_at(thing, turn):
    """The picture of a thing at a turn."""
    phases, move = thing
    rounds, at = divmod(turn, len(phases))
    return moved(phases[at], (rounds * move[0], rounds * move[1]))


def common_round(one, other):
    """The least common multiple of the rounds of two things."""
    many = len(one[0])
    while many % len(other[0]) != 0:
        many += len(one[0])
    return many


def drift(one, other):
    """How far one thing is moved in a common round, less how far the other one is."""
    many = common_round(one, other)
    for_one, for_other = many // len(one[0]), many // len(other[0])
    return (for_one * one[1][0] - for_other * other[1][0], for_one * one[1][1] - for_other * other[1][1])


def touch_at(kind, one, other, turn):
    """Whether two things touch at a turn."""
    return touch(kind, thing_at(one, turn), thing_at(other, turn))


def gap(one, other, turn, way):
    """The least height along a way of one thing's cells at a turn, less the greatest of the other's."""
    back = (-way[0], -way[1])
    return -height(thing_at(one, turn), back) - height(thing_at(other, turn), way)


def parts_along(kind, one, other, turn, way):
    """Whether a way shows that two things don't touch from a turn on."""
    if cell_height(drift(one, other), way) < 0:
        return False
    least = 2 * height(offsets(kind), way)
    for later in range(turn, turn + common_round(one, other)):
        if gap(one, other, later, way) <= least:
            return False
    return True


def first_touch_of(kind, one, other, start, end):
    """The first turn from a start to below an end at which two things touch, or None."""
    for turn in range(start, end):
        if touch_at(kind, one, other, turn):
            return turn
    return None


def way_apart(kind, one, other, turn):
    """A way that shows that two things don't touch from a turn on, or None."""
    for way in WAYS:
        if parts_along(kind, one, other, turn, way):
            return way
    return None


def meets(rule, one, other):
    """The turn at which two things meet, or a paper that they stay apart."""
    refuse_loud(rule)
    kind, first, second = rule[0], thing_of(rule, one), thing_of(rule, other)
    span = common_round(first, second)
    turn, way = 0, None
    while way is None:
        found = first_touch_of(kind, first, second, turn, turn + span)
        if found is not None:
            return ("meet", found)
        turn += span
        # What doesn't drift shows in one common round all that it ever shows.
        if drift(first, second) == (0, 0):
            return ("apart", turn, None)
        way = way_apart(kind, first, second, turn)
    return ("apart", turn, way)


def holds_apart(rule, one, other, turn, way):
    """Whether a turn and a way are a paper that two things stay apart."""
    refuse_loud(rule)
    kind, first, second = rule[0], thing_of(rule, one), thing_of(rule, other)
    span = common_round(first, second)
    if turn < 0:
        return False
    if way is None:
        # Turns beyond the first common round show nothing else than it shows, where nothing drifts.
        held = drift(first, second) == (0, 0) and turn >= span
        return held and first_touch_of(kind, first, second, 0, span) is None
    held = parts_along(kind, first, second, turn, way)
    return held and first_touch_of(kind, first, second, 0, turn) is None
