"""Turns on the plane (points 2, 3, 6 and 9)."""

import itertools
import unittest

from cellships.errors import Loud
from cellships.planes import after, counts, next_turn
from tests.helper import (BLINKER, BLOCK, FAR, GLIDER, KINDS, LIFE, MODEL_OFFSETS, MOST, Case, boxed, model_after,
                          model_count, model_moved, model_near, model_next, model_turned, model_turnings)

HUGE = 10 ** 75

RULES = (
    (4, (1,), (0, 1)), (4, (2, 3), (0, 4)), (4, (1, 3), (1, 3)), (4, (), (0, 1, 2, 3, 4)), (4, (4,), ()),
    (6, (2,), (3, 4)), (6, (1, 6), (0,)), (6, (2, 3), (1, 2, 5, 6)), (6, (), ()), (6, (1, 3, 5), (0, 2, 4, 6)),
    LIFE, (8, (2,), ()), (8, (3, 6), (0, 2, 3)), (8, (1, 8), (8,)), (8, (2, 4, 7), (0, 1, 5)),
)
PICTURES = (
    [], [(0, 0)], [(-4, 7)], BLOCK, BLINKER, GLIDER,
    [(-2, 1), (-1, -1), (0, 0), (0, 1), (1, 3), (2, -2), (2, 0)],
    [(-100, 50), (-100, 51), (-99, 50), (0, 0), (0, 1), (0, 2), (300, -7)],
)


class CountsTest(Case):

    def test_one_cell(self):
        for kind in KINDS:
            self.tells({cell: 1 for cell in MODEL_OFFSETS[kind]}, counts, kind, [(0, 0)])

    def test_by_hand(self):
        self.tells({(-1, 0): 1, (0, -1): 1, (0, 0): 1, (0, 1): 1, (1, -1): 1, (1, 0): 1, (1, 1): 1, (2, 0): 1},
                   counts, 4, [(0, 0), (1, 0)])
        self.tells({(-1, -1): 1, (-1, 0): 1, (0, -1): 2, (0, 0): 1, (0, 1): 1, (1, -1): 1, (1, 0): 1, (1, 1): 2,
                    (2, 0): 1, (2, 1): 1}, counts, 6, [(0, 0), (1, 0)])

    def test_no_cells(self):
        for kind in KINDS:
            self.tells({}, counts, kind, [])

    def test_each_cell_with_a_living_neighbour_and_no_other(self):
        for kind in KINDS:
            for cells in boxed(2, 3) + list(PICTURES):
                tally = {cell: model_count(kind, cells, cell) for cell in model_near(cells)}
                self.tells({cell: count for cell, count in tally.items() if count}, counts, kind, cells)

    def test_far_cells(self):
        for kind in KINDS:
            for x, y in itertools.product((FAR, -FAR, MOST, -MOST, HUGE), repeat=2):
                self.tells({(x + dx, y + dy): 1 for dx, dy in MODEL_OFFSETS[kind]}, counts, kind, [(x, y)])


class NextTurnTest(Case):

    def test_by_hand(self):
        self.tells([(1, 0), (1, 1), (1, 2)], next_turn, LIFE, BLINKER)
        self.tells(BLOCK, next_turn, LIFE, BLOCK)
        self.tells([(0, 1), (1, 2), (1, 3), (2, 1), (2, 2)], next_turn, LIFE, GLIDER)
        self.tells([], next_turn, LIFE, [(0, 0), (0, 1)])
        self.tells([(0, 0)], next_turn, (4, (), (0,)), [(0, 0)])
        self.tells([], next_turn, (4, (), (1,)), [(0, 0)])
        self.tells([(-1, 0), (0, -1), (0, 1), (1, 0)], next_turn, (4, (1,), ()), [(0, 0)])
        self.tells([(0, -1), (1, 1)], next_turn, (6, (2,), ()), [(0, 0), (1, 0)])
        self.tells([(0, -1), (0, 1), (1, -1), (1, 1)], next_turn, (8, (2,), ()), [(0, 0), (1, 0)])

    def test_no_cells(self):
        for told in RULES:
            self.tells([], next_turn, told, [])

    def test_small_pictures_by_each_kind(self):
        for told in RULES:
            for cells in boxed(2, 3) + list(PICTURES):
                self.tells(model_next(told, cells), next_turn, told, cells)

    def test_all_counts_of_all_kinds(self):
        middle = (1, 1)
        for kind in KINDS:
            for cells in boxed(3, 3)[::3]:
                for count in range(kind + 1):
                    found = model_count(kind, cells, middle)
                    stay = next_turn((kind, (), (count,)), cells)
                    self.assertEqual(middle in stay, middle in cells and found == count)
                    if count:
                        born = next_turn((kind, (count,), ()), cells)
                        self.assertEqual(middle in born, middle not in cells and found == count)

    def test_forty_figures(self):
        for told in RULES:
            for cells in PICTURES:
                for move in ((FAR, FAR), (-FAR, FAR), (FAR, -FAR), (-FAR, -FAR), (MOST, 1 - MOST)):
                    self.tells(model_moved(model_next(told, cells), move), next_turn, told, model_moved(cells, move))

    def test_parts_far_away_from_one_another(self):
        places = ((-FAR, FAR), (-FAR, 0), (0, 0), (70, -FAR), (FAR, 3))
        for told in RULES:
            for cells in PICTURES:
                world = sorted(cell for place in places for cell in model_moved(cells, place))
                turn = model_next(told, cells)
                wanted = sorted(cell for place in places for cell in model_moved(turn, place))
                self.tells(wanted, next_turn, told, world)

    def test_many_cells(self):
        cells = [(x, (x * x) % 11 + y * 13) for x in range(10) for y in range(15)]
        self.assertEqual(len(set(cells)), 150)
        for told in RULES:
            self.tells(model_next(told, sorted(cells)), next_turn, told, sorted(cells))


class AfterTest(Case):

    def test_no_turns_tell_the_picture_itself_anew(self):
        for told in RULES:
            for cells in PICTURES:
                self.tells(cells, after, told, cells, 0)
                self.assertIsNot(after(told, cells, 0), cells)

    def test_one_turn(self):
        for told in RULES:
            for cells in PICTURES:
                self.tells(model_next(told, cells), after, told, cells, 1)

    def test_several_turns(self):
        for told in RULES:
            for cells in (BLOCK, BLINKER, GLIDER, [(0, 0)]):
                for many in (2, 3, 5):
                    self.tells(model_after(told, cells, many), after, told, cells, many)

    def test_turns_add_up(self):
        for told in RULES:
            for one, other in ((0, 0), (0, 3), (3, 0), (2, 3), (1, 4)):
                first = after(told, GLIDER, one)
                self.tells(after(told, GLIDER, one + other), after, told, first, other)

    def test_the_glider_goes(self):
        self.tells(model_moved(GLIDER, (1, 1)), after, LIFE, GLIDER, 4)
        self.tells(model_moved(GLIDER, (15, 15)), after, LIFE, GLIDER, 60)
        far = model_moved(GLIDER, (-FAR, FAR))
        self.tells(model_moved(far, (15, 15)), after, LIFE, far, 60)

    def test_what_blinks_and_what_is_gone(self):
        self.tells(BLINKER, after, LIFE, BLINKER, 60)
        self.tells([(1, 0), (1, 1), (1, 2)], after, LIFE, BLINKER, 59)
        self.tells([], after, LIFE, [(0, 0)], 60)
        self.tells([], after, LIFE, [], 60)

    def test_all_small_pictures(self):
        for told in ((4, (1, 2), (1,)), (6, (2,), (1, 3)), LIFE):
            for cells in boxed(3, 2):
                self.tells(model_after(told, cells, 4), after, told, cells, 4)


class LoudTest(Case):

    def test_loud_rules_are_refused_ahead_of_all_else(self):
        for told in ((4, (0,), ()), (6, (0, 2), (3,)), (8, (0, 3), (2, 3)), (8, tuple(range(9)), (0,))):
            for cells in PICTURES:
                self.refuses(Loud, next_turn, told, cells)
                for many in (0, 1, 2, 60):
                    self.refuses(Loud, after, told, cells, many)

    def test_nought_in_stay_is_quiet(self):
        for kind in KINDS:
            self.tells([(0, 0)], next_turn, (kind, (), (0,)), [(0, 0)])
            self.tells([(0, 0)], after, (kind, (), (0,)), [(0, 0)], 60)


class AlikeTest(Case):

    def test_turned_and_moved_worlds_turn_alike(self):
        for told in RULES:
            for turning in model_turnings(told[0]):
                for cells in (GLIDER, PICTURES[6]):
                    for move in ((0, 0), (-FAR, 5)):
                        other = model_moved(model_turned(cells, turning), move)
                        turn = after(told, cells, 3)
                        wanted = model_moved(model_turned(turn, turning), move)
                        self.tells(wanted, after, told, other, 3)


if __name__ == "__main__":
    unittest.main()
