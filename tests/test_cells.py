"""Cells and pictures (points 2, 4 and 7)."""

import itertools
import unittest

from cellships.cells import at_nought, box_of, is_cell, is_picture, moved, picture, put_together
from tests.helper import BLINKER, BLOCK, FAR, GLIDER, MOST, ODD_THINGS, Case, boxed, model_moved

HUGE = 10 ** 75


class IsCellTest(Case):

    def test_ordinary_cells(self):
        for cell in ((0, 0), (3, -2), (-1, 7), (2, 1), (10 ** 20, -10 ** 20)):
            self.tells(True, is_cell, cell)

    def test_sixty_figures_and_no_more(self):
        for number in (MOST, -MOST, 10 ** 59, -10 ** 59):
            self.tells(True, is_cell, (number, 0))
            self.tells(True, is_cell, (0, number))
            self.tells(True, is_cell, (number, -number))
        for number in (MOST + 1, -MOST - 1, HUGE, -HUGE):
            self.tells(False, is_cell, (number, 0))
            self.tells(False, is_cell, (0, number))
            self.tells(False, is_cell, (number, number))

    def test_lists_and_other_lengths(self):
        for thing in ([0, 0], [], (), (0,), (0, 0, 0), ((0, 0),), ([0, 0],), (0, 0, None), [(0, 0)]):
            self.tells(False, is_cell, thing)

    def test_odd_things(self):
        for odd in ODD_THINGS + (0, 12, "ab", b"ab", "0,0", {0: 0, 1: 1}, {0, 1}):
            self.assertIs(is_cell(odd), False, odd)
        for odd in ODD_THINGS + ([], [0], (), (0,), (0, 0)):
            self.assertIs(is_cell((odd, 0)), False, odd)
            self.assertIs(is_cell((0, odd)), False, odd)
            self.assertIs(is_cell((odd, odd)), False, odd)


class IsPictureTest(Case):

    def test_ordinary_pictures(self):
        for cells in ([], [(0, 0)], BLOCK, BLINKER, GLIDER, [(-5, 2), (-5, 3), (0, -9)]):
            self.tells(True, is_picture, cells)

    def test_most_figures(self):
        self.tells(True, is_picture, [(-MOST, -MOST), (-MOST, MOST), (MOST, -MOST), (MOST, MOST)])
        self.tells(False, is_picture, [(0, 0), (MOST + 1, 0)])
        self.tells(False, is_picture, [(0, 0), (0, MOST + 1)])
        self.tells(False, is_picture, [(-MOST - 1, 0)])
        self.tells(False, is_picture, [(0, -MOST - 1), (0, 0)])

    def test_just_the_rising_order(self):
        cells = [(-1, 5), (0, 0), (0, 1), (1, -3)]
        for order in itertools.permutations(cells):
            self.tells(list(order) == cells, is_picture, list(order))

    def test_a_cell_twice(self):
        self.tells(False, is_picture, [(0, 0), (0, 0)])
        self.tells(False, is_picture, [(0, 0), (0, 1), (0, 1)])
        self.tells(False, is_picture, [(0, 0), (0, 1), (0, 1), (2, 2)])
        self.tells(False, is_picture, [(0, 0), (0, 1), (0, 0)])

    def test_two_cells_out_of_order(self):
        self.tells(False, is_picture, [(1, 0), (0, 5)])
        self.tells(False, is_picture, [(0, 1), (0, 0)])
        self.tells(False, is_picture, [(0, 0), (2, 0), (1, 0)])
        self.tells(False, is_picture, [(1, 0), (0, 0), (2, 0)])

    def test_a_thing_that_is_no_cell(self):
        for odd in ODD_THINGS + (0, [0, 0], (0,), (0, 0, 0), (True, 0), (0, "0"), (None, None), []):
            self.assertIs(is_picture([odd]), False, odd)
            self.assertIs(is_picture([(0, 0), odd]), False, odd)
            self.assertIs(is_picture([odd, (5, 5)]), False, odd)
            self.assertIs(is_picture([(-1, 0), odd, (5, 5)]), False, odd)

    def test_no_list(self):
        for odd in ODD_THINGS + (0, (), ((0, 0),), ((0, 0), (0, 1)), (0, 0), {(0, 0): True}, {(0, 0)}):
            self.assertIs(is_picture(odd), False, odd)

    def test_long_lists(self):
        cells = [(0, y) for y in range(2000)]
        self.tells(True, is_picture, cells)
        self.tells(False, is_picture, cells[:-1] + [(0, 1998)])
        self.tells(False, is_picture, cells[:-1] + [(0, 1997)])
        self.tells(False, is_picture, cells[:-1] + [[0, 1999]])


class PictureTest(Case):

    def test_any_order_and_several_times(self):
        cells = [(0, 0), (0, 1), (1, -3)]
        for order in itertools.product(cells, repeat=4):
            wanted = [cell for cell in cells if cell in order]
            self.tells(wanted, picture, list(order))
            self.tells(wanted, picture, order)

    def test_no_cells(self):
        self.tells([], picture, [])
        self.tells([], picture, ())

    def test_a_picture_stays(self):
        for cells in boxed(2, 3):
            self.tells(cells, picture, cells)
            self.tells(cells, picture, tuple(reversed(cells)))

    def test_orders_by_x_then_y_as_numbers(self):
        self.tells([(-10, 3), (-2, 9), (0, -11), (0, -2), (0, 10), (9, 0), (10, 0)], picture,
                   [(10, 0), (9, 0), (0, 10), (0, -2), (0, -11), (-2, 9), (-10, 3)])

    def test_large_numbers(self):
        near = [(MOST, MOST - 1), (MOST, MOST), (MOST - 1, MOST), (MOST, MOST - 1)]
        self.tells([(MOST - 1, MOST), (MOST, MOST - 1), (MOST, MOST)], picture, near)
        self.tells([(-HUGE, HUGE), (HUGE, -HUGE)], picture, ((HUGE, -HUGE), (-HUGE, HUGE), (HUGE, -HUGE)))

    def test_two_thousand_cells(self):
        cells = [(x % 10, -x) for x in range(1000)] * 2
        self.tells(sorted(cells[:1000]), picture, cells)


class MovedTest(Case):

    def test_ordinary_moves(self):
        self.tells([(3, -1), (3, 0), (4, -1), (4, 0)], moved, BLOCK, (3, -1))
        self.tells([(-3, 6), (-2, 6), (-1, 6)], moved, BLINKER, (-3, 5))
        self.tells([(0, 9)], moved, [(0, 0)], (0, 9))
        self.tells([(9, 0)], moved, [(0, 0)], (9, 0))

    def test_no_cells(self):
        for move in ((0, 0), (1, -4), (FAR, FAR)):
            self.tells([], moved, [], move)

    def test_a_move_of_nought_tells_a_new_list(self):
        for cells in ([], BLOCK, GLIDER):
            self.tells(cells, moved, cells, (0, 0))
            self.assertIsNot(moved(cells, (0, 0)), cells)

    def test_forty_figures_either_way(self):
        for dx, dy in itertools.product((FAR, -FAR, 0), repeat=2):
            self.tells([(x + dx, y + dy) for x, y in GLIDER], moved, GLIDER, (dx, dy))
            self.tells(GLIDER, moved, moved(GLIDER, (dx, dy)), (-dx, -dy))

    def test_more_than_sixty_figures(self):
        self.tells([(MOST + FAR, -MOST - FAR)], moved, [(MOST, -MOST)], (FAR, -FAR))
        far = moved([(MOST, 0), (MOST, 1)], (MOST, MOST))
        self.tells([(2 * MOST, MOST), (2 * MOST, MOST + 1)], moved, far, (0, 0))
        self.tells([(MOST, 0), (MOST, 1)], moved, far, (-MOST, -MOST))


class PutTogetherTest(Case):

    def test_apart(self):
        self.tells([(-1, 0), (0, 0), (0, 1), (5, 5)], put_together, [(0, 0), (5, 5)], [(-1, 0), (0, 1)])

    def test_all_pairs_in_a_small_box(self):
        for one in boxed(2, 2):
            for other in boxed(2, 2):
                self.tells(sorted(set(one) | set(other)), put_together, one, other)

    def test_the_same_and_common_cells(self):
        self.tells(GLIDER, put_together, GLIDER, GLIDER)
        self.tells(GLIDER, put_together, GLIDER, list(GLIDER))
        self.tells([(0, 1), (1, 1), (2, 1), (3, 1)], put_together, BLINKER, model_moved(BLINKER, (1, 0)))

    def test_without_cells(self):
        self.tells([], put_together, [], [])
        self.tells(BLOCK, put_together, BLOCK, [])
        self.tells(BLOCK, put_together, [], BLOCK)

    def test_more_than_sixty_figures(self):
        self.tells([(-HUGE, 0), (HUGE, 0), (HUGE, HUGE)], put_together,
                   [(HUGE, 0), (HUGE, HUGE)], [(-HUGE, 0), (HUGE, 0)])


class BoxTest(Case):

    def test_ordinary_boxes(self):
        self.tells((0, 0, 3, 3), box_of, GLIDER)
        self.tells((0, 1, 3, 1), box_of, BLINKER)
        self.tells((0, 0, 2, 2), box_of, BLOCK)
        self.tells((-4, 7, 1, 1), box_of, [(-4, 7)])
        self.tells((-3, -8, 5, 11), box_of, [(-3, 2), (0, -8), (1, 0)])

    def test_no_cells(self):
        self.tells(None, box_of, [])

    def test_all_pictures_of_a_box(self):
        for cells in boxed(3, 3)[1:]:
            xs = [x for x, y in cells]
            ys = [y for x, y in cells]
            wanted = (min(xs), min(ys), len(range(min(xs), max(xs) + 1)), len(range(min(ys), max(ys) + 1)))
            self.tells(wanted, box_of, cells)

    def test_large_numbers(self):
        self.tells((-MOST, -MOST, 2 * MOST + 1, 2 * MOST + 1), box_of, [(-MOST, MOST), (MOST, -MOST)])
        self.tells((-HUGE, HUGE, HUGE + 1, 1), box_of, [(-HUGE, HUGE), (0, HUGE)])


class AtNoughtTest(Case):

    def test_ordinary_pictures(self):
        self.tells([(0, 0), (1, 0), (2, 0)], at_nought, BLINKER)
        self.tells([(0, 10), (3, 0), (4, 8)], at_nought, [(-3, 2), (0, -8), (1, 0)])
        self.tells([(0, 0)], at_nought, [(-4, 7)])

    def test_no_cells_stay(self):
        self.tells([], at_nought, [])

    def test_at_nought_already_tells_a_new_list(self):
        for cells in ([], BLOCK, GLIDER):
            self.tells(cells, at_nought, cells)
            self.assertIsNot(at_nought(cells), cells)

    def test_wherever_it_was_moved(self):
        for cells in boxed(2, 3):
            laid = at_nought(cells)
            for move in ((3, 0), (0, -3), (-FAR, FAR), (MOST, MOST), (-HUGE, HUGE)):
                self.tells(laid, at_nought, model_moved(cells, move))


if __name__ == "__main__":
    unittest.main()
