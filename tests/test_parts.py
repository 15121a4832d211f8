"""Parts of pictures, and the joins that bear them out (points 2, 3, 27 and 28)."""

import itertools
import unittest

from cellships.errors import Loud
from cellships.parts import hangs_on, holds_parts, parts
from tests.helper import (BLINKER, BLOCK, FAR, GLIDER, KINDS, LIFE, MOST, Case, boxed, kinds, model_hang, model_moved,
                          model_next, model_turns, put)

LOUD_RULES = tuple((kind, born, stay) for kind in KINDS for born in ((0,), (0, 3)) for stay in ((), (2,)))
RULES = (
    LIFE, (8, (2,), ()), (8, (), (0, 1, 2)), (8, (3,), tuple(range(9))), (6, (2,), (3, 4)), (6, (2, 4), (0, 1)),
    (4, (1, 3), (1, 3)), (4, (2,), (0, 1, 2)), (4, (), ()), (4, (1,), ()),
)


# Heaps of cells that touch at once, later, or never.
HEAPS = (
    [], [(0, 0)], [(MOST, -MOST)], BLOCK, BLINKER, GLIDER,
    put(BLOCK, model_moved(BLOCK, (3, 0))), put(BLOCK, model_moved(BLOCK, (4, 0))),
    put(BLOCK, model_moved(BLOCK, (FAR, -FAR))), put(BLINKER, model_moved(BLINKER, (4, 0))),
    put(BLINKER, model_moved(BLINKER, (5, 0)), model_moved(BLINKER, (0, 7))),
    put(GLIDER, model_moved(BLOCK, (9, 9))), put(GLIDER, model_moved(GLIDER, (0, 8)), model_moved(BLOCK, (20, -5))),
    [(0, 0), (2, 0), (4, 0), (7, 0), (11, 0)], [(0, 0), (3, 1), (6, 2), (9, 3)], [(0, 0), (FAR, 0), (FAR + 1, 1)],
)

# Small pictures whose cells lie near to one another and farther away.
SMALL = (
    [(0, 0), (1, 0), (3, 0), (6, 1)], [(0, 0), (0, 2), (2, 0), (2, 2)], [(0, 0), (0, 1), (0, 2), (4, 0), (4, 1)],
    [(0, 0), (1, 1), (2, 2), (5, 5), (6, 6)], [(0, 0), (3, 0), (6, 0), (9, 0), (12, 0)], [(0, 0), (2, 1), (4, 2), (6, 3)],
    [(-3, 0), (0, 0), (0, 3), (3, 3), (FAR, 0)], [(0, 0), (0, 1), (1, 0), (4, 4), (4, 5), (5, 4)],
    [(0, 0), (1, 0), (2, 0), (4, 0), (5, 0), (6, 0)],
)


def go_apart(told, pictures, many):
    """Whether pictures go apart for so many turns."""
    turns = [model_turns(told, cells, many) for cells in pictures]
    for turn in range(many):
        near = [model_hang(told[0], rows[turn]) for rows in turns]
        if any(one & other for one, other in itertools.combinations(near, 2)):
            return False
    return True


def all_ways(cells):
    """All ways to part some cells into lists with cells."""
    if not cells:
        yield []
        return
    for way in all_ways(cells[1:]):
        yield [[cells[0]]] + way
        for at, part in enumerate(way):
            yield way[:at] + [[cells[0]] + part] + way[at + 1:]


def is_made_of(way, parts_told):
    """Whether each part of a way is made of some of the others."""
    return all(any(set(part) <= set(whole) for whole in way) for part in parts_told)


def model_parts(told, cells, many, joins):
    """The parts that joins lead to, or None where they are not as they must be."""
    groups = [({cell}, {cell}) for cell in cells]
    if [turn for turn, cell in joins] != sorted(turn for turn, cell in joins):
        return None
    if any(turn not in range(many) for turn, cell in joins):
        return None
    for number in range(many):
        for turn, cell in joins:
            if turn != number:
                continue
            hit = [group for group in groups if cell in model_hang(told[0], group[1])]
            if len(hit) < 2:
                return None
            groups = [group for group in groups if group not in hit]
            groups.append((set().union(*[one for one, two in hit]), set().union(*[two for one, two in hit])))
        near = [model_hang(told[0], living) for seeds, living in groups]
        if any(one & other for one, other in itertools.combinations(near, 2)):
            return None
        turn = model_next(told, sorted(set().union(*[living for seeds, living in groups])))
        groups = [(seeds, set(turn) & around) for (seeds, living), around in zip(groups, near)]
    return sorted(sorted(seeds) for seeds, living in groups)


def bent_joins(joins, many):
    """Joins bent once."""
    for at, (turn, cell) in enumerate(joins):
        x, y = cell
        yield joins[:at] + joins[at + 1:]
        yield joins[:at] + [joins[at]] + joins[at:]
        yield joins + [joins[at]]
        for other in ((turn + 1, cell), (turn - 1, cell), (-1, cell), (many, cell), (FAR, cell), (-FAR, cell),
                      (turn, (x + 1, y)), (turn, (x, y - 2)), (turn, (x + FAR, y)), (turn, (MOST, -MOST))):
            yield joins[:at] + [other] + joins[at + 1:]
        if at:
            yield joins[:at - 1] + [joins[at], joins[at - 1]] + joins[at + 1:]
    for turn in (-FAR, -1, 0, 1, many - 1, many, many + 1, FAR):
        for cell in ((0, 0), (1, 1), (-1, 0), (5, 0), (FAR, FAR)):
            yield joins + [(turn, cell)]
            yield [(turn, cell)] + joins
    yield joins[::-1]
    yield []


def bent_parts(told):
    """Parts bent once: lists of pictures none of which is the told list."""
    for at, part in enumerate(told):
        yield told[:at] + told[at + 1:]
        yield told[:at] + [part] + told[at:]
        yield told[:at] + [[]] + told[at:]
        yield told[:at] + [model_moved(part, (1, 0))] + told[at + 1:]
        yield told[:at] + [part[1:]] + told[at + 1:]
        if len(part) > 1:
            yield sorted(told[:at] + [part[:1], part[1:]] + told[at + 1:])
            yield sorted(told[:at] + [part[:-1], part[-1:]] + told[at + 1:])
        if at:
            yield sorted(told[:at - 1] + [put(told[at - 1], part)] + told[at + 1:])
            yield told[:at - 1] + [part, told[at - 1]] + told[at + 1:]
    yield told + [[]]
    yield [[]] + told
    yield told + [[(FAR, 5)]]
    yield told + told if told else [[(0, 0)]]


class HangsOnTest(Case):

    def test_by_hand(self):
        self.tells([(2, 7), (3, 6), (3, 7), (3, 8), (4, 7)], hangs_on, 4, (3, 7))
        self.tells([(-1, -1), (-1, 0), (0, -1), (0, 0), (0, 1), (1, 0), (1, 1)], hangs_on, 6, (0, 0))
        self.tells([(-1, 0), (-1, 1), (-1, 2), (0, 0), (0, 1), (0, 2), (1, 0), (1, 1), (1, 2)], hangs_on, 8, (0, 1))

    def test_near_and_far(self):
        for kind in KINDS:
            for cell in ((0, 0), (-5, 3), (FAR, -FAR), (MOST, MOST), (-MOST, MOST), (MOST, 0), (0, -MOST)):
                self.tells(sorted(model_hang(kind, [cell])), hangs_on, kind, cell)
                self.assertEqual(len(hangs_on(kind, cell)), kind + 1)


class PartsTest(Case):

    def holds(self, told, cells, many):
        """What is told is borne out, goes apart, and its turns put together are those of the picture."""
        answer = parts(told, cells, many)
        self.assertEqual(kinds(answer)[0], "tuple")
        pictures, joins = answer
        self.assertEqual(put(*pictures), cells)
        self.assertEqual(sum(map(len, pictures)), len(cells))
        self.assertTrue(all(pictures))
        self.assertEqual([part[0] for part in pictures], sorted(part[0] for part in pictures))
        self.assertTrue(all(part == sorted(part) for part in pictures))
        self.assertTrue(go_apart(told, pictures, many), (told, cells, many))
        self.assertEqual(model_parts(told, cells, many, joins), pictures, (told, cells, many))
        self.assertIs(holds_parts(told, cells, many, pictures, joins), True)
        together = [put(*turn) for turn in zip(*[model_turns(told, part, many) for part in pictures])]
        self.assertEqual(together or [[]] * (many + 1), model_turns(told, cells, many))
        return pictures

    def test_by_hand(self):
        self.tells(([], []), parts, LIFE, [], 0)
        self.tells(([], []), parts, LIFE, [], 30)
        self.tells(([[(0, 0)], [(0, 1)], [(1, 0)], [(1, 1)]], []), parts, LIFE, BLOCK, 0)
        self.assertEqual(self.holds(LIFE, BLOCK, 1), [BLOCK])
        # Two blocks with a column between hang together, with two columns they don't.
        near, far = model_moved(BLOCK, (3, 0)), model_moved(BLOCK, (4, 0))
        self.assertEqual(self.holds(LIFE, put(BLOCK, near), 1), [put(BLOCK, near)])
        self.assertEqual(self.holds(LIFE, put(BLOCK, far), 30), [BLOCK, far])
        self.assertEqual(self.holds((4, (), (0,)), [(0, 0), (3, 0)], 30), [[(0, 0)], [(3, 0)]])
        self.assertEqual(self.holds((4, (), (0,)), [(0, 0), (2, 0)], 1), [[(0, 0), (2, 0)]])
        self.assertEqual(self.holds((4, (), (0,)), [(0, 0), (1, 1)], 1), [[(0, 0), (1, 1)]])
        self.assertEqual(self.holds((4, (), (0,)), [(0, 0), (1, 2)], 1), [[(0, 0)], [(1, 2)]])
        self.assertEqual(self.holds((8, (), (0,)), [(0, 0), (1, 2)], 1), [[(0, 0), (1, 2)]])
        self.assertEqual(self.holds((6, (), (0,)), [(0, 0), (2, -1)], 1), [[(0, 0)], [(2, -1)]])
        self.assertEqual(self.holds((6, (), (0,)), [(0, 0), (2, 1)], 1), [[(0, 0), (2, 1)]])

    def test_what_meets_later(self):
        both = put(GLIDER, model_moved(BLOCK, (9, 9)))
        ways = [len(self.holds(LIFE, both, many)) for many in range(31)]
        self.assertEqual(ways[0], 9)
        self.assertEqual(ways[1:], sorted(ways[1:], reverse=True))
        self.assertEqual((ways[1], ways[30]), (2, 1))
        # At the last turn, many itself, it isn't looked whether they touch.
        meet = ways.index(1)
        turns = model_turns(LIFE, GLIDER, meet)
        near = model_hang(8, model_moved(BLOCK, (9, 9)))
        self.assertTrue(model_hang(8, turns[meet - 1]) & near)
        self.assertFalse(model_hang(8, turns[meet - 2]) & near)

    def test_groups_whose_cells_have_died_stay_groups(self):
        self.assertEqual(self.holds(LIFE, [(0, 0), (5, 0)], 30), [[(0, 0)], [(5, 0)]])
        self.assertEqual(self.holds((4, (), ()), [(0, 0), (3, 0), (FAR, 0)], 9), [[(0, 0)], [(3, 0)], [(FAR, 0)]])
        # A cell that has died is not met by what comes to its place.
        cells = put(GLIDER, [(9, 9)])
        self.assertEqual(self.holds(LIFE, cells, 30), [GLIDER, [(9, 9)]])

    def test_heaps(self):
        for told in RULES:
            for cells in HEAPS:
                for many in (0, 1, 2, 5):
                    self.holds(told, cells, many)

    def test_thirty_turns(self):
        for told in (LIFE, (4, (2,), (0, 1, 2)), (8, (), (0, 1, 2)), (6, (2, 4), (0, 1))):
            for cells in HEAPS:
                self.holds(told, cells, 30)

    def test_many_cells(self):
        line = [(3 * at, 0) for at in range(150)]
        self.assertEqual(len(self.holds((8, (), (0,)), line, 3)), 150)
        self.assertEqual(len(self.holds((8, (), (0, 1, 2)), [(2 * at, 0) for at in range(150)], 3)), 1)
        blocks = put(*[model_moved(BLOCK, (5 * at, at)) for at in range(37)])
        self.assertEqual(len(self.holds(LIFE, blocks, 2)), 37)

    def test_no_smaller_ones(self):
        for told in RULES:
            for cells in SMALL:
                for many in (0, 1, 2, 4):
                    pictures = self.holds(told, cells, many)
                    for way in all_ways(cells):
                        if go_apart(told, way, many):
                            self.assertTrue(is_made_of(way, pictures), (told, cells, many, way))

    def test_no_smaller_ones_in_a_small_box(self):
        for told in (LIFE, (4, (1, 3), (1, 3)), (6, (2,), (3, 4))):
            for cells in boxed(4, 2)[::9]:
                spread = [(2 * x, 3 * y) for x, y in cells]
                if len(spread) < 6:
                    pictures = self.holds(told, spread, 2)
                    ways = [way for way in all_ways(spread) if go_apart(told, way, 2)]
                    self.assertTrue(all(is_made_of(way, pictures) for way in ways))

    def test_more_turns_make_no_smaller_parts(self):
        for told in RULES:
            for cells in SMALL:
                ahead = None
                for many in range(6):
                    pictures = parts(told, cells, many)[0]
                    if ahead is not None:
                        self.assertTrue(is_made_of(pictures, ahead))
                    ahead = pictures

    def test_far_cells(self):
        for told in RULES:
            for cells in SMALL[:6]:
                for move in ((FAR, -FAR), (10 ** 59, -10 ** 59)):
                    wanted = [model_moved(part, move) for part in parts(told, cells, 4)[0]]
                    self.assertEqual(self.holds(told, model_moved(cells, move), 4), wanted)

    def test_each_told_list_is_a_new_one(self):
        for told in RULES:
            for cells in HEAPS[:8] + SMALL:
                for many in (0, 1, 3):
                    pictures, joins = self.told(parts, told, cells, many)
                    self.tells(True, holds_parts, told, cells, many, pictures, joins)

    def test_loud_ahead_of_all(self):
        for told in LOUD_RULES:
            for cells in ([], BLOCK, GLIDER):
                for many in (0, 1, 30):
                    self.refuses(Loud, parts, told, cells, many)
                    for pictures, joins in (([], []), ([cells], []), ([[(FAR, 0)]], [(-1, (0, 0))])):
                        self.refuses(Loud, holds_parts, told, cells, many, pictures, joins)


class HoldsPartsTest(Case):

    def same(self, told, cells, many, pictures, joins):
        """The answer is that of the model."""
        answer = holds_parts(told, cells, many, pictures, joins)
        wanted = model_parts(told, cells, many, joins) == pictures
        self.assertIs(answer, wanted, (told, cells, many, pictures, joins))
        return answer

    def test_by_hand(self):
        two = [(0, 0), (2, 0)]
        keep = (8, (), (0,))
        self.tells(True, holds_parts, keep, two, 0, [[(0, 0)], [(2, 0)]], [])
        self.tells(False, holds_parts, keep, two, 0, [two], [])
        self.tells(False, holds_parts, keep, two, 0, [two], [(0, (1, 0))])
        self.tells(False, holds_parts, keep, two, 0, [[(0, 0)], [(2, 0)]], [(0, (1, 0))])
        for cell in ((1, 0), (1, -1), (1, 1)):
            self.tells(True, holds_parts, keep, two, 1, [two], [(0, cell)])
            self.tells(False, holds_parts, keep, two, 1, [[(0, 0)], [(2, 0)]], [(0, cell)])
            self.tells(False, holds_parts, keep, two, 2, [two], [(1, cell)])
            self.tells(False, holds_parts, keep, two, 1, [two], [(0, cell), (0, (1, 0))])
            self.tells(False, holds_parts, keep, two, 2, [two], [(0, cell), (1, cell)])
        # One group alone hangs there, or none.
        for cell in ((0, 0), (2, 0), (3, 1), (-1, 0), (1, 2), (FAR, 0)):
            self.tells(False, holds_parts, keep, two, 1, [two], [(0, cell)])
        self.tells(False, holds_parts, keep, two, 1, [two], [])
        self.tells(False, holds_parts, keep, two, 1, [[(0, 0)], [(2, 0)]], [])

    def test_of_no_turns_and_no_cells(self):
        self.tells(True, holds_parts, LIFE, [], 0, [], [])
        self.tells(True, holds_parts, LIFE, [], 30, [], [])
        for many in (0, 1, 30):
            self.tells(False, holds_parts, LIFE, [], many, [[]], [])
            self.tells(False, holds_parts, LIFE, [], many, [[(0, 0)]], [])
            for turn in (-1, 0, many - 1, many, FAR, -FAR):
                self.tells(False, holds_parts, LIFE, [], many, [], [(turn, (0, 0))])

    def test_any_order_within_a_turn(self):
        row = [(0, 0), (2, 0), (4, 0)]
        keep = (4, (), (0,))
        for joins in itertools.permutations([(0, (1, 0)), (0, (3, 0))]):
            self.tells(True, holds_parts, keep, row, 2, [row], list(joins))
        # One join may make one group of more than two.
        square = [(0, 1), (1, 0), (1, 2), (2, 1)]
        self.tells(True, holds_parts, keep, square, 1, [square], [(0, (1, 1))])
        self.tells(False, holds_parts, keep, square, 1, [square], [(0, (1, 1)), (0, (0, 0))])
        for joins in itertools.permutations([(0, (0, 0)), (0, (2, 2)), (0, (1, 1))]):
            self.same(keep, square, 1, [square], list(joins))

    def test_bent_joins(self):
        held = []
        for told in RULES:
            for cells in SMALL + HEAPS[3:8]:
                for many in (1, 3):
                    pictures, joins = parts(told, cells, many)
                    for other in bent_joins(joins, many):
                        held.append(self.same(told, cells, many, pictures, other))
        self.assertEqual(set(held), {True, False})

    def test_bent_parts(self):
        for told in RULES:
            for cells in SMALL + HEAPS:
                for many in (0, 1, 3):
                    pictures, joins = parts(told, cells, many)
                    for other in bent_parts(pictures):
                        self.assertIs(self.same(told, cells, many, other, joins), False, (pictures, other))

    def test_joins_of_thirty_turns(self):
        cells = put(GLIDER, model_moved(BLOCK, (9, 9)), model_moved(BLOCK, (0, 40)))
        pictures, joins = parts(LIFE, cells, 30)
        self.assertEqual(len(pictures), 2)
        self.assertGreater(joins[-1][0], 5)
        self.assertTrue(self.same(LIFE, cells, 30, pictures, joins))
        for other in bent_joins(joins, 30):
            self.same(LIFE, cells, 30, pictures, other)
        # A join too late: by then a cell has hung on living cells of two groups.
        late = joins[:-1] + [(joins[-1][0] + 1, joins[-1][1])]
        self.assertFalse(self.same(LIFE, cells, 30, pictures, late))

    def test_joins_that_are_not_forced_are_none(self):
        # There is no cell that hangs on both, so they can't be put together by a join.
        both = put(BLOCK, model_moved(BLOCK, (4, 0)))
        pictures, joins = parts(LIFE, both, 2)
        for cell in itertools.product(range(-1, 7), range(-1, 3)):
            for turn in (0, 1):
                self.assertFalse(self.same(LIFE, both, 2, [both], sorted(joins + [(turn, cell)])))

    def test_two_thousand_joins(self):
        self.tells(False, holds_parts, LIFE, BLOCK, 30, [BLOCK], [(0, (0, 0))] * 2000)
        self.tells(False, holds_parts, LIFE, BLOCK, 30, [BLOCK], [(29, (at, FAR)) for at in range(2000)])


if __name__ == "__main__":
    unittest.main()
