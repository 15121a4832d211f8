"""Pictures that rest in a box, numbered (points 2 and 26)."""

import fractions
import itertools
import unittest

from cellships.errors import Loud, NoNumber, NoRest, NoSize
from cellships.planes import next_turn
from cellships.rests import how_many_rest, rest_at, rest_number
from tests.helper import (BLINKER, BLOCK, FAR, GLIDER, KINDS, LIFE, MOST, ODD_THINGS, Case, boxed, model_count,
                          model_moved, model_next)

RULES = (
    (4, (2,), (0, 1, 2)), (4, (), (0,)), (4, (1,), (0, 1)), (4, (3, 4), (2, 3)),
    (6, (2,), (2, 3)), (6, (3,), (0, 2, 3)), (6, (), (1, 2)), (6, (4, 5), (3, 4, 6)),
    LIFE, (8, (3, 6, 7, 8), (3, 4, 6, 7, 8)), (8, (2,), (0, 8)), (8, (), ()), (8, (1,), tuple(range(9))),
)
KEEPERS = tuple((kind, (), tuple(range(kind + 1))) for kind in KINDS)
LONERS = tuple((kind, (), (0,)) for kind in KINDS)
LOUD_RULES = tuple((kind, born, stay) for kind in KINDS for born in ((0,), (0, 3)) for stay in ((), (2,)))
SMALL_SIZES = ((1, 1), (1, 2), (1, 5), (1, 8), (2, 1), (2, 2), (2, 4), (3, 1), (3, 2), (3, 3), (4, 1), (4, 2))

# Of anything that is no size of such a box.
NO_REST_SIZES = ODD_THINGS + (
    0, 1, 4, 60, (), (4,), (4, 4, 4), (1, 1, 1), [4, 4], [4], [], (0, 1), (1, 0), (0, 0), (-1, 5), (4, -1), (5, 1),
    (5, 60), (4, 61), (1, 61), (5, 61), (60, 4), (0, 61), (FAR, 1), (1, FAR), (-FAR, 1), (MOST, -MOST), (True, 4),
    (4, True), (True, True), (False, 4), (4, False), ("4", 4), (4, "4"), ("4", "4"), "44", b"\x04\x04", (None, 4),
    (4, None), (None, None), ([4], 4), (4, [4]), ((4, 4),), ((4,), 4), (4, (4, 4)), {1: 1, 2: 2}, {1, 2}, (4, {}),
    (set(), 4), (fractions.Fraction(4), 4), (4, fractions.Fraction(4)))


def rows_from_above(cells, size):
    return [sum(2 ** x for x in range(size[0]) if (x, y) in cells) for y in range(size[1])]


def model_rests(told, size):
    """All pictures that rest in a box, ordered by their rows, by going through all pictures."""
    # The slow model of a turn takes long for thousands of pictures.
    turn = model_next if size[0] * size[1] <= 6 else next_turn
    found = [cells for cells in boxed(*size) if turn(told, cells) == cells]
    return sorted(found, key=lambda cells: rows_from_above(cells, size))


def model_row_stays(told, wide, rows):
    """Whether the middle one of three rows stays, cell by cell, those beside the box too."""
    kind, born, stay = told
    cells = [(x, y) for y, row in enumerate(rows) for x in range(wide) if row >> x & 1]
    return all((model_count(kind, cells, (x, 1)) in (stay if (x, 1) in cells else born)) == ((x, 1) in cells)
               for x in range(-1, wide + 1))


def model_many(told, size):
    """How many rest, reckoned from above, row by row."""
    wide, high = size
    stays = {rows: model_row_stays(told, wide, rows) for rows in itertools.product(range(2 ** wide), repeat=3)}
    ways = {(0, 0): 1}
    for below in [range(2 ** wide)] * high + [(0,), (0,)]:
        after = {}
        for (one, two), many in ways.items():
            for three in below:
                if stays[one, two, three]:
                    after[two, three] = after.get((two, three), 0) + many
        ways = after
    return sum(ways.values())


class SmallBoxesTest(Case):

    def holds_all(self, told, size):
        """All numbers tell all pictures that rest, in their order, and back."""
        wanted = model_rests(told, size)
        self.assertEqual(how_many_rest(told, size), len(wanted), (told, size))
        for number, cells in enumerate(wanted):
            self.assertEqual(rest_at(told, size, number), cells, (told, size, number))
            self.assertEqual(rest_number(told, size, cells), number, (told, size, cells))
        for number in (-1, len(wanted)):
            self.refuses(NoNumber, rest_at, told, size, number)
        return wanted

    def test_by_hand(self):
        self.assertEqual(self.holds_all(LIFE, (2, 2)), [[], BLOCK])
        self.assertEqual(self.holds_all(LIFE, (1, 8)), [[]])
        self.assertEqual(self.holds_all((4, (), (0,)), (2, 1)), [[], [(0, 0)], [(1, 0)]])
        self.assertEqual(self.holds_all((4, (), (0,)), (1, 2)), [[], [(0, 1)], [(0, 0)]])
        self.assertEqual(self.holds_all((8, (), (1,)), (2, 2)),
                         [[], [(0, 1), (1, 1)], [(0, 0), (0, 1)], [(0, 0), (1, 1)], [(0, 1), (1, 0)],
                          [(1, 0), (1, 1)], [(0, 0), (1, 0)]])

    def test_against_all_pictures(self):
        for told in RULES:
            for size in SMALL_SIZES:
                self.holds_all(told, size)

    def test_keepers(self):
        for told in KEEPERS:
            for size in ((1, 1), (1, 6), (2, 3), (3, 2), (4, 1)):
                self.assertEqual(len(self.holds_all(told, size)), 2 ** (size[0] * size[1]))

    def test_larger_boxes(self):
        for told, size in ((LIFE, (4, 3)), ((4, (2,), (0, 1, 2)), (3, 4)), ((6, (3,), (0, 2, 3)), (4, 3))):
            self.assertGreater(len(self.holds_all(told, size)), 5)

    def test_what_would_be_born_beside_the_box_or_outside_of_its_rows(self):
        # Within the box each stays as it is, but outside of it a cell is born.
        self.tells(7, how_many_rest, (8, (3,), tuple(range(9))), (1, 3))
        self.refuses(NoRest, rest_number, (8, (3,), tuple(range(9))), (1, 3), [(0, 0), (0, 1), (0, 2)])
        self.refuses(NoRest, rest_number, (8, (3,), tuple(range(9))), (3, 1), [(0, 0), (1, 0), (2, 0)])
        self.refuses(NoRest, rest_number, (4, (1,), tuple(range(5))), (1, 1), [(0, 0)])
        self.tells(1, how_many_rest, (4, (1,), tuple(range(5))), (1, 1))
        self.tells(1, how_many_rest, (4, (1,), tuple(range(5))), (4, 60))

    def test_the_picture_without_cells_is_number_0(self):
        for told in RULES + KEEPERS + LONERS:
            for size in ((1, 1), (2, 3), (3, 7), (4, 40)):
                self.tells([], rest_at, told, size, 0)
                self.tells(0, rest_number, told, size, [])

    def test_each_told_list_is_a_new_one(self):
        for number in range(12):
            cells = self.told(rest_at, LIFE, (3, 3), number)
            self.tells(number, rest_number, LIFE, (3, 3), cells)
        self.tells(12, how_many_rest, LIFE, (3, 3))


class HighBoxesTest(Case):

    def test_keepers_of_sixty_rows(self):
        for told in KEEPERS:
            for wide in (1, 2, 3, 4):
                self.tells(2 ** (60 * wide), how_many_rest, told, (wide, 60))
                for number in (2 ** wide, 2 ** (59 * wide) + 5, 2 ** (60 * wide) - 1, 3 ** (30 * wide)):
                    digits = [number >> (wide * (59 - y)) & (2 ** wide - 1) for y in range(60)]
                    cells = sorted((x, y) for y, row in enumerate(digits) for x in range(wide) if row >> x & 1)
                    self.assertEqual(rest_at(told, (wide, 60), number), cells)
                    self.assertEqual(rest_number(told, (wide, 60), cells), number)

    def test_loners_in_one_column_are_numbered_as_fibonacci_counts(self):
        for told in LONERS:
            few, many = 1, 2
            for high in range(1, 61):
                self.assertEqual(how_many_rest(told, (1, high)), many)
                few, many = many, few + many

    def test_against_a_count_from_above(self):
        for told in RULES:
            for size in ((1, 60), (2, 60), (3, 59), (3, 17)):
                self.assertEqual(how_many_rest(told, size), model_many(told, size), (told, size))
        for told in (LIFE, (4, (2,), (0, 1, 2)), (6, (3,), (0, 2, 3))):
            for size in ((4, 5), (4, 60)):
                self.assertEqual(how_many_rest(told, size), model_many(told, size), (told, size))

    def test_there_and_back(self):
        for told in RULES:
            for size in ((1, 60), (2, 41), (3, 60), (4, 7), (4, 60)):
                many = how_many_rest(told, size)
                ahead = None
                for number in sorted({0, 1, 2, many // 7, many // 3, many // 2, many // 2 + 1, many - 2, many - 1}):
                    if not 0 <= number < many:
                        continue
                    cells = rest_at(told, size, number)
                    self.assertEqual(model_next(told, cells), cells)
                    self.assertTrue(all(0 <= x < size[0] and 0 <= y < size[1] for x, y in cells))
                    self.assertEqual(rest_number(told, size, cells), number)
                    rows = rows_from_above(cells, size)
                    self.assertTrue(ahead is None or ahead < rows)
                    ahead = rows

    def test_order_by_rows_from_above(self):
        for size, start in (((4, 60), 10 ** 20), ((3, 60), 10 ** 9), ((4, 30), 10 ** 8)):
            rows = [rows_from_above(rest_at(LIFE, size, start + number), size) for number in range(20)]
            self.assertEqual(rows, sorted(rows))
            self.assertEqual(len({tuple(row) for row in rows}), 20)

    def test_moved_down_comes_ahead(self):
        numbers = [rest_number(LIFE, (4, 60), model_moved(BLOCK, (1, down))) for down in range(59)]
        self.assertEqual(numbers, sorted(numbers, reverse=True))
        self.assertEqual(rest_number(LIFE, (4, 60), model_moved(BLOCK, (0, 58))), 1)
        self.assertLess(rest_number(LIFE, (4, 60), BLOCK), rest_number(LIFE, (4, 60), model_moved(BLOCK, (1, 0))))


class RefusalsTest(Case):

    def test_loud_ahead_of_all(self):
        for told in LOUD_RULES:
            for size in ((1, 1), (4, 60)) + NO_REST_SIZES:
                self.refuses(Loud, how_many_rest, told, size)
                self.refuses(Loud, rest_at, told, size, 0)
                self.refuses(Loud, rest_at, told, size, -1)
                self.refuses(Loud, rest_number, told, size, [])
                self.refuses(Loud, rest_number, told, size, [(-1, -1)])

    def test_no_size_of_anything(self):
        for told in (LIFE, (4, (), (0,)), (6, (2,), ())):
            for size in NO_REST_SIZES:
                self.refuses(NoSize, how_many_rest, told, size)
                for number in (0, -1, 10 ** 79):
                    self.refuses(NoSize, rest_at, told, size, number)
                for cells in ([], [(-1, 0)], BLINKER, [(FAR, FAR)]):
                    self.refuses(NoSize, rest_number, told, size, cells)

    def test_all_sizes(self):
        for wide in range(-1, 7):
            for high in list(range(-1, 4)) + [59, 60, 61, 62]:
                if 1 <= wide <= 4 and 1 <= high <= 60:
                    self.assertEqual(how_many_rest((8, (), ()), (wide, high)), 1)
                else:
                    self.refuses(NoSize, how_many_rest, (8, (), ()), (wide, high))

    def test_no_number(self):
        for told in (LIFE, (4, (), (0,)), (6, (), ()), KEEPERS[2]):
            for size in ((1, 1), (2, 2), (4, 3), (3, 60), (4, 60)):
                many = how_many_rest(told, size)
                for number in (-1, -2, -many, -FAR, 1 - 10 ** 80, many, many + 1, 2 * many, 10 ** 79, 10 ** 80 - 1):
                    self.refuses(NoNumber, rest_at, told, size, number)
                self.told(rest_at, told, size, many - 1)

    def test_no_rest_with_a_cell_outside(self):
        for move in ((-1, 0), (3, 0), (0, -1), (0, 4), (-2, -2), (9, 9), (FAR, 0), (0, FAR), (-FAR, 0), (0, -FAR),
                     (4, 5), (1 - MOST, 0), (0, MOST - 1)):
            self.refuses(NoRest, rest_number, LIFE, (4, 5), model_moved(BLOCK, move))
        for cell in ((-1, 0), (4, 0), (0, -1), (0, 60), (MOST, 0), (0, -MOST)):
            self.refuses(NoRest, rest_number, (8, (), (0,)), (4, 60), [cell])
            self.refuses(NoRest, rest_number, (8, (), (0,)), (4, 60), sorted([(2, 30), cell]))
        for wide, high in ((1, 1), (2, 1), (1, 2)):
            self.refuses(NoRest, rest_number, LIFE, (wide, high), BLOCK)

    def test_no_rest_where_it_does_not_rest(self):
        for cells in (BLINKER, GLIDER, [(0, 0)], [(0, 0), (0, 1), (1, 0)], model_moved(BLINKER, (1, 40))):
            self.refuses(NoRest, rest_number, LIFE, (4, 60), cells)
        for told in RULES:
            for cells in boxed(2, 3):
                if model_next(told, cells) != cells:
                    self.refuses(NoRest, rest_number, told, (2, 3), cells)


if __name__ == "__main__":
    unittest.main()
