"""Fates on rings (points 2, 3, 10, 11 and 16)."""

import itertools
import unittest

from cellships.errors import NoSize
from cellships.fates import fate
from cellships.ringfates import ring_fate
from cellships.rings import enough, wrapped
from tests.helper import BLINKER, BLOCK, GLIDER, KINDS, LIFE, NO_RING_SIZES, Case, boxed, model_ring_next

QUIET = ((4, (1,), (0, 1)), (4, (2, 3), (1, 2, 4)), (4, (), ()), (6, (2,), (3, 4)), (6, (1, 6), (0,)), LIFE,
         (8, (2, 4, 7), (0, 1, 5)), (8, (), tuple(range(9))))
LOUD = ((4, (0,), ()), (4, (0, 2), (1, 4)), (4, (0,), (4,)), (6, (0, 3), (0, 6)), (6, (0,), ()), (8, (0, 3), (2, 3)),
        (8, tuple(range(9)), ()), (8, (0,), (8,)), (8, (0, 8), ()))
SIZES = ((3, 3), (3, 4), (4, 3), (5, 3), (4, 5))


def model_ring_moved(size, cells, move):
    return sorted(((x + move[0]) % size[0], (y + move[1]) % size[1]) for x, y in cells)


def model_ring_move(size, one, other):
    for move in itertools.product(range(size[0]), range(size[1])):
        if model_ring_moved(size, one, move) == other:
            return move
    return None


def model_ring_turns(told, size, cells, many):
    rows = [list(cells)]
    for turn in range(many):
        rows.append(model_ring_next(told, size, rows[-1]))
    return rows


def model_ring_fate(told, size, cells, most):
    rows = model_ring_turns(told, size, cells, most)
    for turn, now in enumerate(rows):
        if not now and 0 not in told[1]:
            return ("gone", turn)
        for first, earlier in enumerate(rows[:turn]):
            move = model_ring_move(size, earlier, now)
            if move is not None:
                return ("comes", first, turn - first, move)
    return ("on",)


def scattered(size, step):
    """A picture of a ring that has no order that one sees."""
    wide, high = size
    return [(x, y) for x in range(wide) for y in range(high) if (3 * x * x + y * y * y + x * y * step) % 7 < 3]


class RingFateTest(Case):

    def test_by_hand(self):
        self.tells(("gone", 0), ring_fate, LIFE, (5, 5), [], 0)
        self.tells(("gone", 1), ring_fate, LIFE, (5, 5), [(0, 0)], 60)
        self.tells(("comes", 0, 1, (0, 0)), ring_fate, LIFE, (5, 5), BLOCK, 1)
        self.tells(("comes", 0, 2, (0, 0)), ring_fate, LIFE, (5, 5), BLINKER, 2)
        self.tells(("comes", 0, 4, (1, 1)), ring_fate, LIFE, (7, 9), GLIDER, 60)
        self.tells(("on",), ring_fate, LIFE, (7, 9), GLIDER, 3)
        # Mirrored from left to right it goes to the left, which is five columns to the right on a ring of six.
        mirrored = sorted((2 - x, y) for x, y in GLIDER)
        self.tells(("comes", 0, 4, (5, 1)), ring_fate, LIFE, (6, 9), mirrored, 60)
        # A whole row is itself moved by each number of columns, of which 0 is the least.
        self.tells(("comes", 0, 1, (0, 0)), ring_fate, (8, (), (2,)), (5, 7), [(x, 3) for x in range(5)], 60)

    def test_the_least_move_of_several(self):
        # Every other column of a ring: one column further is as well one column back.
        for kind, born in ((4, (2,)), (6, (4,)), (8, (6,))):
            stripes = [(x, y) for x in (0, 2, 4) for y in range(5)]
            self.tells(("comes", 0, 1, (1, 0)), ring_fate, (kind, born, ()), (6, 5), stripes, 60)
            self.tells(("comes", 0, 1, (1, 0)), ring_fate, (kind, born, ()), (6, 5),
                       [(x + 1, y) for x, y in stripes], 1)
            lying = [(x, y) for x in range(5) for y in (1, 3, 5)]
            self.tells(("comes", 0, 1, (0, 1)), ring_fate, (kind, born, ()), (5, 6), lying, 60)
        board = [(x, y) for x in range(4) for y in range(6) if (x + y) % 2]
        self.tells(("comes", 0, 1, (0, 1)), ring_fate, (4, (4,), ()), (4, 6), board, 60)

    def test_no_turns(self):
        for size in SIZES:
            for cells in ([], [(0, 0)], BLOCK, boxed(3, 3)[-1]):
                for told in QUIET:
                    self.tells(("on",) if cells else ("gone", 0), ring_fate, told, size, cells, 0)
                for told in LOUD:
                    self.tells(("on",), ring_fate, told, size, cells, 0)

    def test_as_the_model(self):
        words = []
        for told in QUIET + LOUD:
            for size in SIZES:
                for cells in [[]] + boxed(3, 3)[5::71]:
                    for most in (1, 2, 9):
                        wanted = model_ring_fate(told, size, cells, most)
                        self.assertEqual(ring_fate(told, size, cells, most), wanted, (told, size, cells))
                        words.append((told in LOUD, wanted[0]))
        self.assertEqual(set(words), {(False, "gone"), (False, "comes"), (False, "on"), (True, "comes"), (True, "on")})

    def test_with_care(self):
        for told in QUIET + LOUD:
            for size in SIZES:
                for cells in ([], GLIDER[1:2], BLOCK, GLIDER):
                    if max([y for x, y in cells] + [0]) < size[1]:
                        self.tells(model_ring_fate(told, size, cells, 4), ring_fate, told, size, cells, 4)

    def test_all_pictures_of_the_least_ring(self):
        for told in ((4, (2,), (1, 3)), (6, (0, 3), (2,)), (8, (3,), (2, 3)), (8, (0, 4), (5,))):
            for cells in boxed(3, 3):
                self.assertEqual(ring_fate(told, (3, 3), cells, 12), model_ring_fate(told, (3, 3), cells, 12))

    def test_large_rings(self):
        for told in (LIFE, (6, (2,), (3, 4)), (4, (0, 2), (1, 4)), (8, (0, 3), (2, 3))):
            for size in ((12, 12), (3, 40), (40, 3), (36, 4), (9, 16)):
                cells = scattered(size, 2)
                self.assertEqual(ring_fate(told, size, cells, 5), model_ring_fate(told, size, cells, 5))

    def test_sixty_turns(self):
        for told in QUIET + LOUD:
            for size in ((12, 12), (7, 11)):
                cells = scattered(size, 3)
                rows = model_ring_turns(told, size, cells, 60)
                answer = ring_fate(told, size, cells, 60)
                if answer[0] == "comes":
                    word, turn, many, move = answer
                    self.assertEqual(rows[turn + many], model_ring_moved(size, rows[turn], move))
                    self.assertEqual(ring_fate(told, size, cells, turn + many), answer)
                    self.assertEqual(ring_fate(told, size, cells, turn + many - 1), ("on",))
                elif answer[0] == "gone":
                    self.assertEqual(rows[answer[1]], [])
                    self.assertTrue(all(rows[:answer[1]]))

    def test_loud_rules_and_pictures_without_cells(self):
        for kind in KINDS:
            for size in SIZES:
                self.tells(("comes", 0, 2, (0, 0)), ring_fate, (kind, (0,), ()), size, [], 60)
                self.tells(("comes", 1, 1, (0, 0)), ring_fate, (kind, (0,), (kind,)), size, [], 60)
                whole = [(x, y) for x in range(size[0]) for y in range(size[1])]
                self.tells(("comes", 0, 2, (0, 0)), ring_fate, (kind, (0,), ()), size, whole, 60)
        # Without cells at turn 1, but not for good.
        self.assertEqual(model_ring_turns((8, (0, 1), ()), (3, 3), BLOCK, 2)[1], [])
        self.tells(("comes", 1, 2, (0, 0)), ring_fate, (8, (0, 1), ()), (3, 3), BLOCK, 60)
        self.tells(("gone", 1), ring_fate, (8, (1,), ()), (3, 3), BLOCK, 60)

    def test_what_is_gone_is_gone_first(self):
        # The whole ring dies at once, and an empty one would rest.
        whole = [(x, y) for x in range(4) for y in range(4)]
        self.tells(("gone", 1), ring_fate, LIFE, (4, 4), whole, 60)
        self.tells(("gone", 0), ring_fate, LIFE, (4, 4), [], 60)

    def test_large_enough_rings_show_what_the_plane_shows(self):
        for told in (LIFE, (6, (2, 3, 5, 6), (3,)), (4, (2, 3), (1, 2, 4))):
            for cells in (BLOCK, BLINKER, GLIDER, [(0, 0)], [(0, 0), (1, 1)]):
                on_plane = fate(told, cells, 4)
                size = enough(cells, 4)
                on_ring = ring_fate(told, size, wrapped(size, cells), 4)
                if on_plane[0] == "comes":
                    word, turn, many, (dx, dy) = on_plane
                    on_plane = (word, turn, many, (dx % size[0], dy % size[1]))
                self.assertEqual(on_ring, on_plane)

    def test_no_size(self):
        for size in NO_RING_SIZES:
            for told in (LIFE, (8, (0, 3), (2, 3))):
                for cells in ([], [(0, 0)], BLOCK):
                    for most in (0, 1, 60):
                        self.refuses(NoSize, ring_fate, told, size, cells, most)


if __name__ == "__main__":
    unittest.main()
