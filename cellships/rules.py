"""Rules of counts: what a cell becomes by how many of its neighbours live."""

from cellships.cells import is_whole
from cellships.errors import Loud, NoRule


def is_row_of_counts(kind, thing):
    """Whether anything is a list or tuple of counts of a kind, each once."""
    if not isinstance(thing, (list, tuple)):
        return False
    if not all([is_whole(count) and 0 <= count <= kind for count in thing]):
        return False
    return len(set(thing)) == len(thing)


def rule(kind, born, stay):
    """The rule of a kind and of two rows of counts in any order, refused where there is none."""
    if not is_whole(kind) or kind not in (4, 6, 8):
        raise NoRule("a kind is 4, 6 or 8")
    if not is_row_of_counts(kind, born) or not is_row_of_counts(kind, stay):
        raise NoRule("counts are whole numbers from 0 to the kind, each once")
    return (kind, tuple(sorted(born)), tuple(sorted(stay)))


def is_quiet(rule):
    """Whether nothing is born where nothing lives."""
    return 0 not in rule[1]


def refuse_loud(rule):
    """Refuse what is asked of the plane with a loud rule."""
    if not is_quiet(rule):
        raise Loud("by this rule cells are born out of nothing")


def comes(rule, alive, count):
    """Whether a cell with so many living neighbours lives at the next turn."""
    kind, born, stay = rule
    return count in (stay if alive else born)
