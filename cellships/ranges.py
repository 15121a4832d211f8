"""Rules between: which rules show the same turns of a picture."""

from cellships.planes import next_turn, watched
from cellships.rules import refuse_loud


def cases_now(kind, picture):
    """The pairs (alive, count) of which there is a cell now, as a dict's keys."""
    living = {cell: True for cell in picture}
    return {(cell in living, count): True for cell, count in watched(kind, picture).items()}


def cases_of(rule, picture, many):
    """The pairs (alive, count) that decide the turns 0 to many, as a dict's keys."""
    # On the plane there are always dead cells without living neighbours.
    cases = {(False, 0): True}
    now = picture
    for turn in range(many):
        cases.update(cases_now(rule[0], now))
        now = next_turn(rule, now)
    return cases


def least_and_most(rule, alive, cases):
    """The counts that a rule must have to show the same, and those that it may have."""
    kind, born, stay = rule
    held = stay if alive else born
    least = [count for count in held if (alive, count) in cases]
    most = [count for count in range(kind + 1) if count in held or (alive, count) not in cases]
    return (tuple(least), tuple(most))


def range_of(rule, picture, many):
    """The range (born least, born most, stay least, stay most) of rules that show the same turns."""
    refuse_loud(rule)
    cases = cases_of(rule, picture, many)
    return least_and_most(rule, False, cases) + least_and_most(rule, True, cases)


def holds_between(least, held, most):
    """Whether counts have all of the least, and none but those of the most."""
    return all([count in held for count in least]) and all([count in most for count in held])


def is_between(told, rule):
    """Whether a rule lies in a range."""
    refuse_loud(rule)
    born_least, born_most, stay_least, stay_most = told
    kind, born, stay = rule
    return holds_between(born_least, born, born_most) and holds_between(stay_least, stay, stay_most)


def first_unlike(one, other, picture, most):
    """The first turn, up to most, at which two rules show unlike pictures, or None."""
    refuse_loud(one)
    refuse_loud(other)
    now = picture
    for turn in range(1, most + 1):
        by_one = next_turn(one, now)
        if by_one != next_turn(other, now):
            return turn
        now = by_one
    return None
