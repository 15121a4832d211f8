"""Things sought in a box (points 2, 3 and 22 to 24)."""

import itertools
import unittest

from cellships.errors import Loud, NoSize
from cellships.seeks import seek
from cellships.trees import holds_tree, is_tree
from tests.helper import (FAR, KINDS, LIFE, NO_BOX_SIZES, Case, boxed, kinds, model_after, model_form, model_forms,
                          model_moved, model_things, spoil)

SIZES = tuple((wide, high) for wide in range(1, 10) for high in range(1, 10) if wide * high <= 9)
SMALL = tuple(size for size in SIZES if size[0] * size[1] <= 6)
RULES = (
    (4, (1,), (0, 1)), (4, (2, 3), (1, 2, 4)), (4, (), (0, 1, 2, 3, 4)), (4, (2,), ()),
    (6, (2,), (3, 4)), (6, (2, 3, 5, 6), (3,)), (6, (2, 4, 6), (0, 1, 2, 4)), (6, (), ()),
    LIFE, (8, (2, 4, 5), (8,)), (8, (3, 5, 7), (1, 3, 5, 8)), (8, (1,), ()), (8, tuple(range(1, 9)), tuple(range(9))),
)
LOUD_RULES = tuple((kind, born, stay) for kind in KINDS for born in ((0,), (0, 3)) for stay in ((), (2,)))
FLYER = [(0, 0), (0, 3), (1, 1), (1, 2)]


class SeekTest(Case):

    def holds(self, told, size, many, move):
        """What is told is what going through all pictures shows, and its tree bears it out."""
        forms, tree = answer = seek(told, size, many, move)
        self.assertEqual(forms, model_forms(told, size, many, move), (told, size, many, move))
        self.assertEqual(kinds(answer)[0], "tuple")
        self.assertIs(type(forms), list)
        self.assertIs(is_tree(tree), True)
        self.assertIs(holds_tree(told, size, many, move, tree, forms), True)
        return forms

    def test_by_hand(self):
        block = [(0, 0), (0, 1), (1, 0), (1, 1)]
        glider = [model_form(8, cells) for cells in ([(0, 2), (1, 0), (1, 2), (2, 1), (2, 2)],
                                                    [(0, 1), (1, 2), (2, 0), (2, 1), (2, 2)],
                                                    [(0, 0), (0, 2), (1, 1), (1, 2), (2, 1)])]
        self.assertEqual(self.holds(LIFE, (2, 2), 1, (0, 0)), [block])
        self.assertEqual(self.holds(LIFE, (3, 1), 2, (0, 0)), [[(0, 0), (0, 1), (0, 2)]])
        self.assertEqual(self.holds(LIFE, (3, 1), 1, (0, 0)), [])
        self.assertEqual(self.holds(LIFE, (1, 3), 4, (0, 0)), [[(0, 0), (0, 1), (0, 2)]])
        self.assertEqual(self.holds(LIFE, (3, 3), 4, (1, 1)), sorted([glider[0], glider[2]]))
        self.assertEqual(self.holds((8, (2, 4, 5), (8,)), (2, 4), 1, (1, 0)), [FLYER])
        self.assertEqual(self.holds((8, (2, 4, 5), (8,)), (4, 2), 3, (0, -3)), [FLYER])
        self.assertEqual(self.holds((4, (), (0,)), (2, 2), 3, (0, 0)), [[(0, 0)], [(0, 0), (1, 1)]])

    def test_small_boxes(self):
        for told in RULES:
            for size in SMALL:
                for many, move in ((1, (0, 0)), (1, (1, 0)), (2, (0, 0)), (2, (0, -1)), (3, (1, 1)), (4, (-1, 1))):
                    self.holds(told, size, many, move)

    def test_boxes_up_to_nine_cells(self):
        for told in RULES:
            for size in SIZES:
                if size[0] * size[1] > 6:
                    self.holds(told, size, 1, (0, 0))
        for told in (LIFE, (6, (2, 3, 5, 6), (3,)), (4, (2, 3), (1, 2, 4)), (8, (3, 5, 7), (1, 3, 5, 8))):
            for size in ((3, 3), (2, 4), (1, 9)):
                for many, move in ((2, (0, 0)), (3, (1, 0)), (4, (1, 1)), (4, (0, 0))):
                    self.holds(told, size, many, move)

    def test_all_moves_in_reach_and_beyond(self):
        across = {(0, 0), (-1, -1), (-1, 1), (1, -1), (1, 1)}
        for told, size, many, wanted in ((LIFE, (3, 3), 4, across),
                                         ((8, (2, 4, 5), (8,)), (2, 4), 2, {(0, 0), (-2, 0), (2, 0)})):
            moves = itertools.product((-5, -2, -1, 0, 1, 2, 5), repeat=2)
            self.assertEqual({move for move in moves if self.holds(told, size, many, move)}, wanted)

    def test_moves_of_forty_figures(self):
        for told in RULES:
            for size in ((1, 1), (3, 2), (3, 3), (9, 1)):
                for move in ((FAR, 0), (-FAR, FAR), (1, -FAR)):
                    forms, tree = seek(told, size, 4, move)
                    self.assertEqual(forms, [])
                    self.assertIs(holds_tree(told, size, 4, move, tree, []), True)

    def test_each_form_is_one_of_a_thing(self):
        for told in RULES:
            for many in (1, 2):
                for form in seek(told, (3, 3), many, (0, 0))[0]:
                    self.assertEqual(form, model_form(told[0], form))
                    self.assertEqual(model_after(told, form, many), form)

    def test_things_that_leave_the_box_between(self):
        forms = self.holds(LIFE, (1, 3), 2, (0, 0))
        self.assertEqual(forms, [[(0, 0), (0, 1), (0, 2)]])

    def test_turned_boxes_have_the_same_forms(self):
        for told in RULES:
            for many in (1, 2):
                self.assertEqual(seek(told, (2, 3), many, (0, 0))[0], seek(told, (3, 2), many, (0, 0))[0])

    def test_things_of_the_model(self):
        # The model itself, against turns that are told nowhere in the package.
        for told in RULES:
            for cells in boxed(2, 2)[1:]:
                wanted = model_after(told, cells, 2) == model_moved(cells, (0, 0))
                self.assertEqual(cells in model_things(told, (2, 2), 2, (0, 0)), wanted)

    def test_each_told_list_is_a_new_one(self):
        for told, size, many, move in ((LIFE, (2, 2), 1, (0, 0)), (LIFE, (3, 3), 4, (1, 1)),
                                       ((4, (), ()), (1, 2), 1, (0, 0)), ((6, (), (0, 1)), (3, 1), 1, (0, 0))):
            self.told(seek, told, size, many, move)
            forms, tree = seek(told, size, many, move)
            spoil(forms)
            self.assertEqual(seek(told, size, many, move)[0], model_forms(told, size, many, move))
            self.assertIs(is_tree(tree), True)

    def test_loud_then_no_size(self):
        for told in LOUD_RULES:
            for size in ((1, 1), (3, 3)) + NO_BOX_SIZES:
                for many, move in ((1, (0, 0)), (4, (FAR, 0))):
                    self.refuses(Loud, seek, told, size, many, move)
        for told in (LIFE, (4, (), (0,))):
            for size in NO_BOX_SIZES:
                for many, move in ((1, (0, 0)), (4, (FAR, 0))):
                    self.refuses(NoSize, seek, told, size, many, move)

    def test_all_sizes(self):
        for wide in range(-1, 12):
            for high in range(-1, 12):
                if (wide, high) in SIZES:
                    self.assertEqual(seek((8, (), ()), (wide, high), 1, (0, 0))[0], [])
                else:
                    self.refuses(NoSize, seek, LIFE, (wide, high), 1, (0, 0))


if __name__ == "__main__":
    unittest.main()
