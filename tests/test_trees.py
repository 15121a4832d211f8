"""Trees of tries (points 2, 20 to 24)."""

import itertools
import unittest

from cellships.errors import Loud, NoSize
from cellships.maybes import maybe_after
from cellships.planes import after
from cellships.seeks import seek
from cellships.trees import holds_tree, is_tree
from tests.helper import (FAR, GLIDER, KINDS, LIFE, MOST, NO_BOX_SIZES, ODD_THINGS, Case, boxed, model_form,
                          model_forms, model_moved)

FOUND = ("found",)
LOUD_RULES = tuple((kind, born, stay) for kind in KINDS for born in ((0,), (0, 3)) for stay in ((), (2,)))
FLYER_RULE = (8, (2, 4, 5), (8,))
KEEPER = (4, (), (0,))

# What is sought: the rule, the size, the turns, the move.
SOUGHT = (
    (LIFE, (2, 2), 1, (0, 0)), (LIFE, (3, 1), 2, (0, 0)), (LIFE, (1, 1), 1, (0, 0)), (KEEPER, (2, 1), 1, (0, 0)),
    (KEEPER, (2, 2), 3, (0, 0)), (KEEPER, (1, 3), 1, (0, 1)), (FLYER_RULE, (2, 4), 1, (1, 0)),
    ((6, (2, 3, 5, 6), (3,)), (2, 2), 2, (0, 0)), ((6, (2, 4, 6), (0, 1, 2, 4)), (3, 1), 1, (0, 0)),
    ((4, (2, 3), (1, 2, 4)), (2, 2), 2, (0, 0)), ((4, (2, 3), (1, 2, 4)), (2, 2), 1, (1, 0)),
    ((8, (1,), ()), (2, 1), 1, (FAR, 0)), ((8, (), tuple(range(9))), (2, 1), 4, (0, 0)), (LIFE, (2, 2), 4, (1, -FAR)),
)


def nest(many, way, leaf=FOUND):
    """So many tries one within another, in the dead tree (2), in the living one (3), or in both."""
    tree = leaf
    for step in range(many):
        cell = (step, -step)
        if way == "both":
            tree = ("try", cell, tree, tree)
        elif way == "turns":
            tree = ("try", cell, FOUND, tree) if step % 2 else ("try", cell, tree, FOUND)
        else:
            tree = ("try", cell, tree, FOUND) if way == 2 else ("try", cell, FOUND, tree)
    return tree


def model_state(live, free, cell):
    return True if cell in live else None if cell in free else False


def cut_cells(rule, many, move, live, free):
    """All cells at which may be cut."""
    later = maybe_after(rule, live, free, many)
    around = set(later[0]) | set(model_moved(live, move))
    found = []
    for cell in sorted(around):
        source = (cell[0] - move[0], cell[1] - move[1])
        if {model_state(later[0], later[1], cell), model_state(live, free, source)} == {True, False}:
            found.append(cell)
    return found


def own_tree(rule, many, move, live, free, order, late):
    """A tree for the same box: its tries in another order, its cuts at other cells, perhaps all of them late."""
    cells = [] if late and free else cut_cells(rule, many, move, live, free)
    if cells:
        return ("cut", cells[-1])
    if not free:
        return FOUND
    cell = order(free, live)
    rest = [other for other in free if other != cell]
    return ("try", cell, own_tree(rule, many, move, live, rest, order, late),
            own_tree(rule, many, move, sorted(live + [cell]), rest, order, late))


ORDERS = (
    lambda free, live: free[0],
    lambda free, live: free[-1],
    lambda free, live: free[len(live) % len(free)],
)


def model_founds(rule, many, move, tree, live, free, found):
    """Whether all is so as the tree is gone through; the live cells at its founds are put into a list."""
    if tree[0] == "cut":
        return tree[1] in cut_cells(rule, many, move, live, free)
    if tree[0] == "found":
        found.append(live)
        return not free and after(rule, live, many) == model_moved(live, move)
    word, cell, dead, alive = tree
    if cell not in free:
        return False
    rest = [other for other in free if other != cell]
    return (model_founds(rule, many, move, dead, live, rest, found)
            and model_founds(rule, many, move, alive, sorted(live + [cell]), rest, found))


def model_holds(rule, size, many, move, tree, forms):
    found = []
    if not model_founds(rule, many, move, tree, [], boxed(*size)[-1], found):
        return False
    told = sorted({tuple(model_form(rule[0], cells)) for cells in found if cells})
    return forms == [list(cells) for cells in told]


def bent_leaf(tree):
    """Other trees in the place of a cut or a found."""
    cells = [(0, 0), (0, 1), (1, 0), (1, 1), (-1, 0), (2, 1), (FAR, FAR), (-FAR, 0)]
    return [FOUND] + [("cut", cell) for cell in cells] + [("try", cell, tree, tree) for cell in cells]


def bent_trees(tree):
    """The tree bent once, at each of its places."""
    if tree[0] != "try":
        yield from [other for other in bent_leaf(tree) if other != tree]
        return
    word, cell, dead, alive = tree
    yield from (dead, alive, FOUND, ("cut", cell), ("try", cell, alive, dead), ("try", cell, dead, dead))
    for other in ((0, 0), (1, 0), (0, 1), (-1, 0), (0, 7), (FAR, 0), (0, -FAR)):
        if other != cell:
            yield ("try", other, dead, alive)
    yield ("try", cell, tree, tree)
    for other in bent_trees(dead):
        yield ("try", cell, other, alive)
    for other in bent_trees(alive):
        yield ("try", cell, dead, other)


def bent_lists(kind, forms):
    """The list of forms bent once: one left out, put in, twice, out of order, one that is no form."""
    for at, cells in enumerate(forms):
        yield forms[:at] + forms[at + 1:]
        yield forms[:at] + [cells] + forms[at:]
        for other in (model_moved(cells, (1, 0)), model_moved(cells, (0, -FAR)), [], cells[1:],
                      sorted(cells + [(7, 7)]), sorted((-x, -y) for x, y in cells)):
            if other != cells:
                yield forms[:at] + [other] + forms[at + 1:]
    for other in ([], [(0, 0)], [(0, 0), (0, 1)], [(0, 0), (0, 1), (0, 2), (0, 3), (0, 4)], GLIDER, [(5, 5)]):
        if other not in forms:
            yield sorted(forms + [other])
    if len(forms) > 1:
        yield forms[::-1]
        yield forms[1:] + forms[:1]


class Flatterer:
    """A thing that says of each other one that it is equal."""

    def __eq__(self, other):
        return True


class IsTreeTest(Case):

    def test_trees(self):
        for cell in ((0, 0), (-3, 7), (FAR, -FAR), (MOST, -MOST)):
            for tree in (FOUND, ("cut", cell)):
                self.tells(True, is_tree, tree)
                self.tells(True, is_tree, ("try", cell, tree, tree))
                self.tells(True, is_tree, ("try", cell, FOUND, tree))
                self.tells(True, is_tree, ("try", cell, tree, ("try", cell, ("cut", (1, 2)), tree)))

    def test_nine_tries_and_ten(self):
        for way in (2, 3, "both", "turns"):
            for leaf in (FOUND, ("cut", (0, 0))):
                for many in range(10):
                    self.assertIs(is_tree(nest(many, way, leaf)), True)
                for many in (10, 11, 12):
                    self.assertIs(is_tree(nest(many, way, leaf)), False)
        for way in (2, 3, "turns"):
            self.assertIs(is_tree(nest(9, way)), True)
            self.assertIs(is_tree(nest(200, way)), False)
            self.assertIs(is_tree(("try", (0, 0), FOUND, nest(9, way))), False)
            self.assertIs(is_tree(("try", (0, 0), nest(9, way), FOUND)), False)
            self.assertIs(is_tree(("try", (0, 0), nest(8, way), nest(8, 2))), True)
            self.assertIs(is_tree(("try", (0, 0), nest(8, way), nest(9, 2))), False)

    def test_anything_else(self):
        bad = ODD_THINGS + (
            0, 1, -7, "found", "cut", "try", (), [], ["found"], ("found", "found"), ("found", (0, 0)), ("found", None),
            ("Found",), ("FOUND",), ("found ",), (b"found",), (FOUND,), (("found",), ("found",)), ("foun",),
            ("cut",), ("cut", (0, 0), (0, 0)), ("cut", (0, 0), FOUND), ["cut", (0, 0)], ("cut", [0, 0]),
            ("cuts", (0, 0)),
            ("try",), ("try", (0, 0)), ("try", (0, 0), FOUND), ("try", (0, 0), FOUND, FOUND, FOUND),
            ["try", (0, 0), FOUND, FOUND], ("try", [0, 0], FOUND, FOUND), ("try", (0, 0), ["found"], FOUND),
            ("try", (0, 0), FOUND, ["found"]), ("try", FOUND, (0, 0), FOUND), ("tries", (0, 0), FOUND, FOUND),
            ((0, 0), "cut"), (None,), (True,), (0,), (None, (0, 0)), (True, (0, 0), FOUND, FOUND), ("", (0, 0)), ("",),
            ("found", (0, 0), FOUND, FOUND), ("cut", (0, 0), FOUND, FOUND), ("try", (0, 0), FOUND, None),
            (["found"],), ({},), ([], (0, 0)), (("cut",), (0, 0)))
        for thing in bad:
            self.assertIs(is_tree(thing), False, thing)
        for thing in bad:
            for other in (("try", (0, 0), thing, FOUND), ("try", (0, 0), FOUND, thing),
                          ("try", (1, 1), FOUND, ("try", (0, 0), thing, FOUND))):
                self.assertIs(is_tree(other), False, other)

    def test_cells_that_are_none(self):
        for cell in ODD_THINGS + ((), (0,), (0, 0, 0), [0, 0], (True, 0), (0, False), ("0", 0), (None, 0), (0, (0,)), 7,
                                  (10 ** 60, 0), (0, -10 ** 60), FOUND, ("cut", (0, 0)), "00"):
            self.assertIs(is_tree(("cut", cell)), False, cell)
            self.assertIs(is_tree(("try", cell, FOUND, FOUND)), False, cell)

    def test_what_calls_itself_equal_to_all(self):
        for thing in (Flatterer(), (Flatterer(),), (Flatterer(), (0, 0)), (Flatterer(), (0, 0), FOUND, FOUND)):
            self.assertIs(is_tree(thing), False)
            self.assertIs(is_tree(("try", (0, 0), FOUND, thing)), False)

    def test_lists_that_hold_themselves(self):
        endless = []
        endless.append(endless)
        for thing in (endless, (endless,), ("cut", endless), ("try", (0, 0), endless, FOUND), ("found", endless)):
            self.assertIs(is_tree(thing), False)


class HoldsTreeTest(Case):

    def test_by_hand(self):
        # One cell alone rests by the keeper.
        tree = ("try", (0, 0), FOUND, FOUND)
        self.tells(True, holds_tree, KEEPER, (1, 1), 1, (0, 0), tree, [[(0, 0)]])
        self.tells(False, holds_tree, KEEPER, (1, 1), 1, (0, 0), tree, [])
        self.tells(False, holds_tree, KEEPER, (1, 1), 1, (0, 0), FOUND, [[(0, 0)]])
        self.tells(False, holds_tree, KEEPER, (1, 1), 1, (0, 0), FOUND, [])
        self.tells(False, holds_tree, KEEPER, (1, 1), 1, (1, 0), tree, [[(0, 0)]])
        # It doesn't go, and by the game of life it dies.
        for told, move in ((KEEPER, (1, 0)), (KEEPER, (0, -FAR)), (LIFE, (0, 0)), (LIFE, (FAR, 1))):
            for cell in ((0, 0), move, (-1, 0), (5, 5)):
                wanted = cell == move or told == KEEPER and cell == (0, 0)
                self.tells(wanted, holds_tree, told, (1, 1), 1, move, ("try", (0, 0), FOUND, ("cut", cell)), [])
            self.tells(False, holds_tree, told, (1, 1), 1, move, ("try", (0, 0), ("cut", move), ("cut", move)), [])
            self.tells(False, holds_tree, told, (1, 1), 1, move, tree, [[(0, 0)]])
            self.tells(False, holds_tree, told, (1, 1), 1, move, tree, [])

    def test_open_cells_are_not_cut(self):
        # Whether it lives isn't known yet, at turn 0 or at turn 1.
        self.tells(False, holds_tree, LIFE, (1, 1), 1, (0, 0), ("cut", (0, 0)), [])
        self.tells(False, holds_tree, KEEPER, (2, 1), 1, (0, 0), ("cut", (1, 0)), [])
        # By a rule by which all dies it is known of turn 1, but of turn 0 it is not.
        self.tells(False, holds_tree, (4, (), ()), (1, 1), 1, (0, 0), ("cut", (0, 0)), [])
        self.tells(True, holds_tree, (4, (), ()), (1, 1), 1, (0, 0), ("try", (0, 0), FOUND, ("cut", (0, 0))), [])
        # Known of turn 0, but not of turn 1: a neighbour may live.
        wanted = ("try", (0, 0), ("try", (1, 0), FOUND, ("cut", (1, 0))), ("cut", (0, 0)))
        self.tells(False, holds_tree, (4, (), (1,)), (2, 1), 1, (0, 0), wanted, [[(0, 0), (1, 0)]])
        inner = ("try", (1, 0), ("cut", (0, 0)), FOUND)
        wanted = ("try", (0, 0), ("try", (1, 0), FOUND, ("cut", (1, 0))), inner)
        self.tells(True, holds_tree, (4, (), (1,)), (2, 1), 1, (0, 0), wanted, [[(0, 0), (0, 1)]])

    def test_found_with_open_cells(self):
        self.tells(False, holds_tree, KEEPER, (2, 1), 1, (0, 0), ("try", (0, 0), FOUND, FOUND), [[(0, 0)]])
        self.tells(False, holds_tree, (4, (), ()), (1, 2), 2, (0, 0), FOUND, [])

    def test_what_seek_tells(self):
        for told, size, many, move in SOUGHT:
            forms, tree = seek(told, size, many, move)
            self.assertTrue(model_holds(told, size, many, move, tree, forms))
            self.tells(True, holds_tree, told, size, many, move, tree, forms)

    def test_other_trees(self):
        for told, size, many, move in SOUGHT:
            forms = model_forms(told, size, many, move)
            for order in ORDERS:
                for late in (False, True):
                    tree = own_tree(told, many, move, [], boxed(*size)[-1], order, late)
                    self.assertIs(holds_tree(told, size, many, move, tree, forms), True, (told, size, tree))
                    for other in bent_lists(told[0], forms):
                        self.assertIs(holds_tree(told, size, many, move, tree, other), False, (forms, other))

    def test_nine_tries(self):
        for told, many, move in ((LIFE, 4, (1, 1)), (LIFE, 1, (0, 0)), (KEEPER, 2, (0, 0)), (LIFE, 2, (FAR, -FAR))):
            for size in ((3, 3), (1, 9), (9, 1)):
                forms = model_forms(told, size, many, move)
                for order in ORDERS[1:]:
                    tree = own_tree(told, many, move, [], boxed(*size)[-1], order, order == ORDERS[1])
                    self.assertIs(is_tree(tree), True)
                    self.assertIs(holds_tree(told, size, many, move, tree, forms), True)
                    self.assertIs(holds_tree(told, size, many, move, tree, forms + [GLIDER]), False)
                    self.assertIs(holds_tree(told, size, many, move, ("try", (0, 0), tree, tree), forms), False)

    def test_bent_trees(self):
        held = []
        for told, size, many, move in SOUGHT:
            if size[0] * size[1] > 4:
                continue
            forms, tree = seek(told, size, many, move)
            for start in (tree, own_tree(told, many, move, [], boxed(*size)[-1], ORDERS[1], True)):
                for other in bent_trees(start):
                    answer = holds_tree(told, size, many, move, other, forms)
                    self.assertIs(answer, model_holds(told, size, many, move, other, forms), (told, size, other))
                    held.append(answer)
        # Some are whole still, as where another cell is cut at or tried.
        self.assertEqual(set(held), {True, False})

    def test_whatever_the_tree_none_is_left_out(self):
        for told, size, many, move in SOUGHT:
            if size[0] * size[1] > 4:
                continue
            forms, tree = seek(told, size, many, move)
            wanted = model_forms(told, size, many, move)
            self.assertEqual(forms, wanted)
            lists = [forms] + list(bent_lists(told[0], forms))
            for other in bent_trees(tree):
                for handed in lists:
                    if holds_tree(told, size, many, move, other, handed):
                        self.assertEqual(handed, wanted)

    def test_bent_for_sure(self):
        tree = ("try", (0, 0), ("try", (1, 0), FOUND, FOUND), ("try", (1, 0), FOUND, ("cut", (0, 0))))
        handed = (KEEPER, (2, 1), 1, (0, 0))
        forms = [[(0, 0)]]
        self.tells(True, holds_tree, *handed, tree, forms)
        right, left = tree[2], tree[3]
        bent = [
            ("try", (0, 0), left, right), ("try", (1, 0), right, left), ("try", (2, 0), right, left),
            ("try", (0, 1), right, left), ("try", (FAR, 0), right, left), ("try", (0, 0), FOUND, left),
            ("try", (0, 0), right, FOUND), ("try", (0, 0), right, ("try", (0, 0), FOUND, ("cut", (0, 0)))),
            ("try", (0, 0), right, ("try", (1, 0), ("cut", (0, 0)), ("cut", (0, 0)))),
            ("try", (0, 0), right, ("try", (1, 0), FOUND, FOUND)),
            ("try", (0, 0), ("try", (1, 0), ("cut", (0, 0)), FOUND), left),
            ("try", (0, 0), right, ("try", (1, 0), FOUND, ("cut", (FAR, FAR)))),
            ("try", (0, 0), right, ("try", (1, 0), FOUND, ("cut", (2, 0)))), FOUND, ("cut", (0, 0)), right, left]
        for other in bent:
            self.tells(False, holds_tree, *handed, other, forms)
        self.tells(True, holds_tree, *handed, ("try", (0, 0), right, ("try", (1, 0), FOUND, ("cut", (1, 0)))), forms)
        for other in ([], [[(0, 0)], [(0, 0)]], [[(0, 0)], [(1, 0)]], [[(1, 0)]], [[]], [[], [(0, 0)]],
                      [[(0, 0)], [(0, 0), (0, 1)]], [[(FAR, 0)]]):
            self.tells(False, holds_tree, *handed, tree, other)

    def test_forms_in_their_order_each_once(self):
        told, size = (6, (), (0, 1)), (3, 1)
        forms, tree = seek(told, size, 1, (0, 0))
        self.assertEqual(forms, [[(0, 0)], [(0, 0), (0, 1)], [(0, 0), (0, 2)]])
        for many in range(4):
            for other in itertools.product(forms, repeat=many):
                self.assertIs(holds_tree(told, size, 1, (0, 0), tree, list(other)), list(other) == forms)

    def test_other_numbers_than_the_tree_is_of(self):
        forms, tree = seek(LIFE, (3, 3), 4, (1, 1))
        self.assertIs(holds_tree(LIFE, (3, 3), 4, (1, 1), tree, forms), True)
        self.assertEqual(len(forms), 2)
        for many, move in ((3, (1, 1)), (4, (1, 0)), (4, (-1, -1)), (4, (FAR, 1)), (1, (0, 0)), (4, (0, 0))):
            self.assertIs(holds_tree(LIFE, (3, 3), many, move, tree, forms), False)
        self.assertIs(holds_tree(LIFE, (2, 3), 4, (1, 1), tree, forms), False)
        self.assertIs(holds_tree((8, (3,), (2,)), (3, 3), 4, (1, 1), tree, forms), False)

    def test_moves_and_cells_of_forty_figures(self):
        for move in ((FAR, 0), (0, -FAR), (-FAR, FAR)):
            forms, tree = seek(LIFE, (2, 2), 3, move)
            self.assertEqual(forms, [])
            self.tells(True, holds_tree, LIFE, (2, 2), 3, move, tree, [])
            for other in bent_trees(tree):
                wanted = model_holds(LIFE, (2, 2), 3, move, other, [])
                self.assertIs(holds_tree(LIFE, (2, 2), 3, move, other, []), wanted)

    def test_loud_then_no_size(self):
        for told in LOUD_RULES:
            for size in ((1, 1), (3, 3)) + NO_BOX_SIZES:
                self.refuses(Loud, holds_tree, told, size, 1, (0, 0), FOUND, [])
        for told in (LIFE, KEEPER):
            for size in NO_BOX_SIZES:
                for tree in (FOUND, ("cut", (0, 0)), ("try", (0, 0), FOUND, FOUND)):
                    self.refuses(NoSize, holds_tree, told, size, 1, (0, 0), tree, [])


if __name__ == "__main__":
    unittest.main()
