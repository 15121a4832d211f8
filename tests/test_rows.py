"""Rows told as whole numbers (points 2 and 25)."""

import itertools
import unittest

from cellships.planes import next_turn
from cellships.rows import middle, picture_of, rows_of
from tests.helper import BLINKER, BLOCK, GLIDER, KINDS, LIFE, Case, boxed, model_count

RULES = ((4, (1,), (0, 1)), (4, (2, 3), (1, 4)), (6, (2,), (3, 4)), (6, (1, 6), (0,)), LIFE, (8, (2, 4, 7), (0, 8)),
         (4, (0,), ()), (6, (0, 3), (0, 6)), (8, (0, 3), (2, 3)), (8, tuple(range(9)), ()), (8, (), tuple(range(9))))


def scattered(wide, high):
    return [(x, y) for x in range(wide) for y in range(high) if (x * x + 3 * y * y + x * y) % 5 < 2]


def model_row(cells, wide, y):
    return sum(2 ** x for x in range(wide) if (x, y) in cells)


def model_cells(rows):
    return sorted((x, y) for y, row in enumerate(rows) for x, sign in enumerate(bin(row)[:1:-1]) if sign == "1")


def model_middle(told, wide, above, row, below):
    kind, born, stay = told
    cells = model_cells([above, row, below])
    lives = [x for x in range(wide)
             if model_count(kind, cells, (x, 1)) in (stay if (x, 1) in cells else born)]
    return sum(2 ** x for x in lives)


class RowsOfTest(Case):

    def test_by_hand(self):
        self.tells([2, 4, 7], rows_of, (3, 3), GLIDER)
        self.tells([0, 7, 0, 0], rows_of, (5, 4), BLINKER)
        self.tells([3, 3], rows_of, (2, 2), BLOCK)
        self.tells([0], rows_of, (1, 1), [])
        self.tells([1], rows_of, (1, 1), [(0, 0)])
        self.tells([0, 0, 1 << 59], rows_of, (60, 3), [(59, 2)])
        self.tells([0] * 59 + [1], rows_of, (1, 60), [(0, 59)])
        self.tells([0] * 60, rows_of, (60, 60), [])

    def test_as_the_model(self):
        for size in ((1, 1), (3, 3), (4, 7), (7, 4), (1, 60), (60, 1), (20, 12), (60, 2), (2, 60)):
            for cells in ([], scattered(*size), scattered(*size)[::3]):
                wanted = [model_row(cells, size[0], y) for y in range(size[1])]
                self.tells(wanted, rows_of, size, cells)

    def test_all_small_pictures(self):
        seen = {tuple(self.told(rows_of, (3, 2), cells)) for cells in boxed(3, 2)}
        self.assertEqual(seen, set(itertools.product(range(8), repeat=2)))


class PictureOfTest(Case):

    def test_by_hand(self):
        self.tells([], picture_of, [])
        self.tells([], picture_of, [0])
        self.tells([], picture_of, [0] * 60)
        self.tells([(0, 0)], picture_of, [1])
        self.tells(GLIDER, picture_of, [2, 4, 7])
        self.tells([(0, 2), (59, 0)], picture_of, [1 << 59, 0, 1])
        self.tells([(x, 1) for x in range(60)], picture_of, [0, (1 << 60) - 1])

    def test_as_the_model(self):
        for rows in itertools.product((0, 1, 2, 5, 8), repeat=3):
            self.tells(model_cells(rows), picture_of, list(rows))

    def test_there_and_back(self):
        for size in ((1, 1), (3, 3), (4, 7), (1, 60), (60, 1), (13, 17), (60, 4), (4, 60), (60, 60)):
            for cells in ([], scattered(*size)[:150], scattered(*size)[::7][:150]):
                rows = self.told(rows_of, size, cells)
                self.assertEqual(len(rows), size[1])
                self.tells(cells, picture_of, rows)
                self.tells(rows, rows_of, size, cells)

    def test_rows_there_and_back(self):
        for rows in itertools.product(range(8), repeat=3):
            self.tells(list(rows), rows_of, (3, 3), picture_of(list(rows)))


class MiddleTest(Case):

    def test_by_hand(self):
        self.tells(2, middle, LIFE, 3, 0, 7, 0)
        self.tells(2, middle, LIFE, 3, 7, 0, 0)
        self.tells(2, middle, LIFE, 3, 0, 0, 7)
        self.tells(0, middle, LIFE, 1, 1, 0, 1)
        self.tells(3, middle, LIFE, 2, 3, 3, 0)
        self.tells(1, middle, (4, (), (0,)), 1, 0, 1, 0)
        self.tells(7, middle, (4, (0,), ()), 3, 0, 0, 0)
        self.tells((1 << 60) - 1, middle, (8, (0,), ()), 60, 0, 0, 0)
        # Above on the left and below on the right are neighbours of kind 6, the other corners are not.
        self.tells(0b0110, middle, (6, (1,), ()), 4, 0b0010, 0, 0)
        self.tells(0b0011, middle, (6, (1,), ()), 4, 0, 0, 0b0010)

    def test_all_rows_of_three_columns(self):
        for told in RULES:
            for rows in itertools.product(range(8), repeat=3):
                self.assertEqual(middle(told, 3, *rows), model_middle(told, 3, *rows), (told, rows))

    def test_each_count_of_each_kind(self):
        for kind in KINDS:
            for count in range(kind + 1):
                for born, stay in (((count,), ()), ((), (count,))):
                    told = (kind, born, stay)
                    for rows in ((0, 2, 7), (7, 7, 7), (7, 5, 7), (5, 2, 5), (3, 6, 1), (4, 0, 1), (1, 0, 4)):
                        self.tells(model_middle(told, 3, *rows), middle, told, 3, *rows)

    def test_wide_rows(self):
        for told in RULES:
            for wide in (1, 2, 5, 31, 59, 60):
                whole = (1 << wide) - 1
                some = sum(1 << x for x in range(wide) if x * x % 7 < 3)
                for rows in ((0, 0, 0), (whole, whole, whole), (some, whole ^ some, some), (0, whole, some)):
                    self.tells(model_middle(told, wide, *rows), middle, told, wide, *rows)

    def test_rows_of_a_next_turn(self):
        for told in RULES:
            if 0 in told[1]:
                continue
            for cells in boxed(3, 3)[::23]:
                inner = [(x + 1, y + 1) for x, y in cells]
                rows = [0] + rows_of((5, 5), inner) + [0]
                turn = [middle(told, 5, *rows[at:at + 3]) for at in range(5)]
                self.assertEqual(picture_of(turn), next_turn(told, inner))


if __name__ == "__main__":
    unittest.main()
