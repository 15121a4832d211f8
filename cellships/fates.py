"""Fates on the plane: what dies out, rests, comes again or goes, and the papers that bear it out."""

from cellships.cells import at_nought, moved
from cellships.forms import turned, turnings
from cellships.planes import next_turn
from cellships.rules import refuse_loud


def turns(rule, picture, many):
    """The turns 0 to many of a picture."""
    refuse_loud(rule)
    rows = [list(picture)]
    for turn in range(many):
        rows.append(next_turn(rule, rows[-1]))
    return rows


def move_between(one, other):
    """The move from a picture with cells to one that is it moved."""
    # Moving keeps the order of cells, so the first ones belong together.
    return (other[0][0] - one[0][0], other[0][1] - one[0][1])


def key_of(picture):
    """What a picture has in common with just those that are it moved, fit for a dict's key."""
    return tuple(at_nought(picture))


def fate(rule, picture, most):
    """What becomes of a picture by turn most: gone, come again, or neither."""
    refuse_loud(rule)
    seen = {}
    now = picture
    for turn in range(most + 1):
        if turn > 0:
            now = next_turn(rule, now)
        if not now:
            return ("gone", turn)
        key = key_of(now)
        if key in seen:
            first, earlier = seen[key]
            return ("comes", first, turn - first, move_between(earlier, now))
        seen[key] = (turn, now)
    return ("on",)


def are_turns(rule, rows):
    """Whether each picture but the first is the next turn of the one ahead."""
    for one, other in zip(rows, rows[1:]):
        if next_turn(rule, one) != other:
            return False
    return True


def all_live_unlike(rows):
    """Whether each picture has cells, and no two are one the other moved."""
    return all(rows) and len({key_of(row) for row in rows}) == len(rows)


def ends_as_told(rows, told):
    """Whether pictures that are turns show what a fate tells."""
    last = len(rows) - 1
    if told[0] == "gone":
        return told[1] == last and not rows[-1] and all(rows[:-1])
    if told[0] == "on":
        return all_live_unlike(rows)
    word, turn, span, move = told
    if turn < 0 or span < 1 or turn + span != last:
        return False
    # The last one is one of the others moved, so where these are unlike it is like that one alone.
    return all_live_unlike(rows[:-1]) and rows[-1] == moved(rows[turn], move)


def bears_out(rule, rows, told):
    """Whether a list of pictures is a paper of a fate."""
    refuse_loud(rule)
    return ends_as_told(rows, told) and are_turns(rule, rows)


def word_of(told):
    """The word of a fate: gone, rests, again, goes or on."""
    if told[0] != "comes":
        return told[0]
    word, turn, span, move = told
    if move != (0, 0):
        return "goes"
    return "rests" if span == 1 else "again"


def glide(rule, picture, most):
    """The first turn up to most that is the picture turned and moved: (many, turning, move), or None."""
    refuse_loud(rule)
    if not picture:
        return None
    faces = [(turning, turned(picture, turning)) for turning in turnings(rule[0])]
    laid = [(turning, face, at_nought(face)) for turning, face in faces]
    now = picture
    for many in range(1, most + 1):
        now = next_turn(rule, now)
        sought = at_nought(now)
        for turning, face, at_start in laid:
            if at_start == sought:
                return (many, turning, move_between(face, now))
    return None
