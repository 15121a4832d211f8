"""Rings (points 2, 3, 10 and 11)."""

import itertools
import unittest

from cellships.errors import Folded, NoSize
from cellships.rings import enough, ring_after, ring_moved, ring_next, wrapped
from tests.helper import (BLINKER, BLOCK, FAR, GLIDER, KINDS, LIFE, MODEL_OFFSETS, MOST, NO_RING_SIZES, Case, boxed,
                          model_after, model_moved, model_ring_next)

SIZES = ((3, 3), (3, 40), (40, 3), (40, 40), (4, 7), (5, 5))
RULES = (
    (4, (1,), (0, 1)), (4, (2, 3), (0, 4)), (6, (2,), (3, 4)), (6, (1, 6), (0,)), LIFE, (8, (2, 4, 7), (0, 1, 5)),
    (4, (0,), ()), (4, (0, 2), (1, 4)), (6, (0, 3), (0, 6)), (6, (0,), ()), (8, (0, 3), (2, 3)),
    (8, (0, 1, 2, 3, 4, 5, 6, 7, 8), ()), (8, (0,), (8,)),
)
PICTURES = ([], [(0, 0)], [(2, 2)], BLINKER, GLIDER, [(0, 0), (0, 2), (1, 1), (2, 0)], boxed(3, 3)[-1])


def small_pictures():
    return boxed(3, 3)[::7]


class WrappedTest(Case):

    def test_inside_stays(self):
        for size in SIZES:
            for cells in PICTURES:
                self.tells(cells, wrapped, size, cells)
                self.assertIsNot(wrapped(size, cells), cells)

    def test_below_nought_and_beyond(self):
        self.tells([(0, 1), (0, 3), (4, 0), (4, 4)], wrapped, (5, 5), [(-1, -1), (-1, 0), (0, 1), (5, 3)])
        self.tells([(2, 2)], wrapped, (3, 3), [(-1, -1)])
        self.tells([(0, 0)], wrapped, (3, 40), [(3, 40)])
        self.tells([(2, 39)], wrapped, (3, 40), [(-1, -1)])
        self.tells([(39, 2)], wrapped, (40, 3), [(-1, -1)])
        self.tells([(39, 0), (39, 1)], wrapped, (40, 3), [(-1, 1), (39, 3)])

    def test_far_off(self):
        for size in SIZES:
            for dx, dy in itertools.product((FAR, -FAR, MOST, -MOST, 10 ** 75), repeat=2):
                cells = model_moved(BLINKER, (dx, dy))
                self.tells(sorted((x % size[0], y % size[1]) for x, y in cells), wrapped, size, cells)

    def test_whole_sides_make_no_difference(self):
        for size in SIZES:
            for cells in PICTURES:
                for a, b in ((1, 0), (0, 1), (-1, -1), (FAR, -FAR)):
                    self.tells(cells, wrapped, size, model_moved(cells, (a * size[0], b * size[1])))

    def test_folded(self):
        for size in SIZES:
            wide, high = size
            self.refuses(Folded, wrapped, size, [(0, 0), (wide, 0)])
            self.refuses(Folded, wrapped, size, [(0, 0), (0, high)])
            self.refuses(Folded, wrapped, size, [(0, 0), (wide, high)])
            self.refuses(Folded, wrapped, size, [(-1, 1), (0, 0), (wide - 1, 1)])
            self.refuses(Folded, wrapped, size, [(-wide * FAR, high * FAR), (0, 0)])
            self.refuses(Folded, wrapped, size, [(x, 0) for x in range(wide + 1)])
            self.tells([(x, 0) for x in range(wide)], wrapped, size, [(x, 0) for x in range(wide)])
            self.tells([(0, 0), (0, 1)], wrapped, size, [(0, 0), (wide, 1)])
            self.tells([(0, 0), (1, 0)], wrapped, size, [(0, 0), (1, high)])

    def test_just_where_two_become_one(self):
        for cells in boxed(4, 3)[::11]:
            rests = [(x % 3, y % 3) for x, y in cells]
            if len(set(rests)) == len(cells):
                self.tells(sorted(rests), wrapped, (3, 3), cells)
            else:
                self.refuses(Folded, wrapped, (3, 3), cells)


class NoSizeTest(Case):

    def test_of_anything(self):
        quiet, loud = LIFE, (8, (0, 3), (2,))
        for size in NO_RING_SIZES:
            for cells in ([], [(0, 0)], BLOCK):
                self.refuses(NoSize, wrapped, size, cells)
                self.refuses(NoSize, ring_moved, size, cells, (0, 0))
                self.refuses(NoSize, ring_moved, size, cells, (1, -2))
                for told in (quiet, loud):
                    self.refuses(NoSize, ring_next, told, size, cells)
                    for many in (0, 1, 2):
                        self.refuses(NoSize, ring_after, told, size, cells, many)

    def test_ahead_of_folded(self):
        for size in NO_RING_SIZES:
            self.refuses(NoSize, wrapped, size, [(0, 0), (0, 5), (5, 0), (5, 5)])
            self.refuses(NoSize, wrapped, size, [(x, y) for x in range(0, 84, 2) for y in (0, 82)])

    def test_all_sizes(self):
        for wide in range(-1, 44):
            for high in (-4, 0, 2, 3, 4, 39, 40, 41):
                size = (wide, high)
                if 3 <= wide <= 40 and 3 <= high <= 40:
                    self.tells([(0, 0)], wrapped, size, [size])
                    self.assertEqual(ring_after(LIFE, size, BLOCK, 0), BLOCK)
                else:
                    self.refuses(NoSize, wrapped, size, [size])
                    self.refuses(NoSize, ring_after, LIFE, size, BLOCK, 0)
                    self.refuses(NoSize, ring_next, LIFE, size, BLOCK)
                    self.refuses(NoSize, ring_moved, size, BLOCK, (0, 0))


class RingNextTest(Case):

    def test_neighbours_round_all_ends(self):
        for kind in KINDS:
            for size in SIZES:
                wide, high = size
                for x, y in ((0, 0), (wide - 1, 0), (0, high - 1), (wide - 1, high - 1), (1, 0), (0, 1)):
                    wanted = sorted(((x + dx) % wide, (y + dy) % high) for dx, dy in MODEL_OFFSETS[kind])
                    self.assertEqual(len(set(wanted)), kind)
                    self.tells(wanted, ring_next, (kind, (1,), ()), size, [(x, y)])

    def test_by_hand(self):
        self.tells([(0, 0), (0, 1), (0, 4)], ring_next, LIFE, (5, 5), [(0, 0), (1, 0), (4, 0)])
        self.tells([(0, 0), (1, 0), (4, 0)], ring_next, LIFE, (5, 5), [(0, 0), (0, 1), (0, 4)])
        self.tells([], ring_next, LIFE, (3, 3), boxed(3, 3)[-1])
        self.tells(boxed(3, 3)[-1], ring_next, (8, (), (8,)), (3, 3), boxed(3, 3)[-1])

    def test_loud_rules(self):
        for kind in KINDS:
            for size in SIZES:
                everything = [(x, y) for x in range(size[0]) for y in range(size[1])]
                self.tells(everything, ring_next, (kind, (0,), ()), size, [])
                self.tells([], ring_next, (kind, (0,), ()), size, everything)
                self.tells(everything, ring_next, (kind, (0,), (kind,)), size, everything)
        rest = [(x, y) for x in range(4) for y in range(4) if (x, y) not in BLOCK]
        self.tells(rest, ring_next, (4, (0, 1), ()), (4, 4), BLOCK)
        self.tells([(2, 2), (2, 3), (3, 2), (3, 3)], ring_next, (4, (0,), ()), (4, 4), BLOCK)

    def test_as_the_model(self):
        for told in RULES:
            for size in ((3, 3), (3, 4), (5, 3), (4, 6)):
                for cells in small_pictures() + list(PICTURES):
                    self.tells(model_ring_next(told, size, cells), ring_next, told, size, cells)

    def test_large_rings(self):
        cells = [(x, (x * 7 + y * 5) % 40) for x in range(0, 40, 3) for y in range(8)]
        for told in RULES:
            self.assertEqual(ring_next(told, (40, 40), sorted(cells)), model_ring_next(told, (40, 40), set(cells)))

    def test_moved_worlds_turn_alike(self):
        for told in RULES:
            for cells in PICTURES:
                for move in ((1, 0), (0, 1), (-2, 3), (FAR, -FAR)):
                    turn = ring_next(told, (5, 4), cells)
                    other = ring_moved((5, 4), cells, move)
                    self.tells(ring_moved((5, 4), turn, move), ring_next, told, (5, 4), other)


class RingAfterTest(Case):

    def test_no_turns_tell_the_picture_itself_anew(self):
        for told in RULES:
            for size in SIZES:
                for cells in PICTURES:
                    self.assertEqual(ring_after(told, size, cells, 0), cells)
                    self.assertIsNot(ring_after(told, size, cells, 0), cells)
        self.tells(GLIDER, ring_after, LIFE, (5, 5), GLIDER, 0)
        self.tells([], ring_after, (4, (0,), ()), (5, 5), [], 0)

    def test_several_turns(self):
        for told in RULES:
            for size in ((3, 3), (5, 4)):
                for cells in PICTURES:
                    now = cells
                    for many in range(1, 6):
                        now = model_ring_next(told, size, now)
                        self.tells(now, ring_after, told, size, cells, many)

    def test_the_glider_goes_round(self):
        self.tells(GLIDER, ring_after, LIFE, (5, 5), GLIDER, 20)
        self.tells(GLIDER, ring_after, LIFE, (15, 15), GLIDER, 60)
        self.tells(GLIDER, ring_after, LIFE, (5, 15), GLIDER, 60)
        self.tells(ring_moved((6, 7), GLIDER, (15, 15)), ring_after, LIFE, (6, 7), GLIDER, 60)

    def test_turns_add_up(self):
        for told in RULES:
            for one, other in ((0, 3), (3, 0), (2, 3)):
                first = ring_after(told, (6, 5), GLIDER, one)
                self.tells(ring_after(told, (6, 5), GLIDER, one + other), ring_after, told, (6, 5), first, other)


class RingMovedTest(Case):

    def test_by_hand(self):
        self.tells([(0, 2), (1, 2), (4, 2)], ring_moved, (5, 5), BLINKER, (-1, 1))
        self.tells([(0, 0), (0, 4), (4, 0), (4, 4)], ring_moved, (5, 5), BLOCK, (4, -1))
        self.tells([(2, 0)], ring_moved, (3, 40), [(0, 39)], (-1, 1))

    def test_nought_and_whole_sides_tell_it_anew(self):
        for size in SIZES:
            for cells in PICTURES:
                for a, b in ((0, 0), (1, 0), (0, -1), (3, -7), (FAR, -FAR)):
                    move = (a * size[0], b * size[1])
                    self.tells(cells, ring_moved, size, cells, move)
                    self.assertIsNot(ring_moved(size, cells, move), cells)

    def test_all_moves(self):
        for size in SIZES:
            for dx, dy in itertools.product((-41, -1, 1, 2, 39, FAR, -FAR, MOST), repeat=2):
                wanted = sorted(((x + dx) % size[0], (y + dy) % size[1]) for x, y in GLIDER)
                self.tells(wanted, ring_moved, size, GLIDER, (dx, dy))


class EnoughTest(Case):

    def test_boxes_and_turns(self):
        self.tells((3, 3), enough, GLIDER, 0)
        self.tells((5, 5), enough, GLIDER, 1)
        self.tells((63, 61), enough, BLINKER, 30)
        self.tells((3, 3), enough, BLINKER, 0)
        self.tells((5, 3), enough, BLINKER, 1)
        self.tells((9, 9), enough, [(-5, 2)], 4)
        self.tells((14, 26), enough, [(-3, 2), (0, -8), (0, 7)], 5)

    def test_three_at_least(self):
        self.tells((3, 3), enough, [(7, 7)], 0)
        self.tells((3, 3), enough, [(7, 7)], 1)
        self.tells((5, 5), enough, [(7, 7)], 2)
        self.tells((3, 3), enough, BLOCK, 0)
        self.tells((4, 4), enough, BLOCK, 1)
        self.tells((3, 9), enough, [(0, 0), (0, 8)], 0)
        self.tells((9, 3), enough, [(0, 0), (8, 0)], 0)

    def test_no_cells(self):
        for many, side in ((0, 3), (1, 3), (2, 4), (3, 6), (60, 120), (FAR, 2 * FAR)):
            self.tells((side, side), enough, [], many)

    def test_thirty_figures(self):
        long = 10 ** 29 + 3
        self.tells((2 * long + 3, 2 * long + 3), enough, GLIDER, long)
        self.tells((2 * long + 1, long + 1), enough, [(-long, 0), (long, long)], 0)
        self.tells((4 * long + 1, 3 * long + 1), enough, [(-long, 0), (long, long)], long)
        self.tells((3, 3), enough, [(long, -long)], 0)

    def test_rings_as_large_and_larger_show_what_the_plane_shows(self):
        quiet = [told for told in RULES if 0 not in told[1]] + [(8, (1,), (0,)), (4, (1,), ()), (6, (1,), (1,))]
        for told in quiet:
            for cells in PICTURES + (model_moved(GLIDER, (-FAR, 17)),):
                for many in (0, 1, 2, 3):
                    wide, high = enough(cells, many)
                    for size in ((wide, high), (wide + 1, high), (wide, high + 4), (40, 40)):
                        for turn in range(many + 1):
                            wanted = wrapped(size, model_after(told, cells, turn))
                            self.assertEqual(ring_after(told, size, wrapped(size, cells), turn), wanted)

    def test_none_smaller_is_promised(self):
        # By this rule a box grows on all sides at each turn, so on a smaller ring the ends meet.
        told = (8, (1,), (0, 1, 2, 3, 4, 5, 6, 7, 8))
        for many in (2, 3, 5):
            wide, high = enough(BLOCK, many)
            self.refuses(Folded, wrapped, (wide - 1, high), model_after(told, BLOCK, many))
            self.refuses(Folded, wrapped, (wide, high - 1), model_after(told, BLOCK, many))


if __name__ == "__main__":
    unittest.main()
