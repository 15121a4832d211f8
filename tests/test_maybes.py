"""What may come, where some cells are open (points 2, 20 and 21)."""

import itertools
import unittest

from cellships.errors import Loud
from cellships.maybes import maybe_after, maybe_comes, maybe_next
from cellships.planes import after
from tests.helper import (BLINKER, BLOCK, FAR, GLIDER, KINDS, LIFE, Case, model_after, model_moved, model_near,
                          model_next, model_turned, model_turnings, rows_of_counts)

QUIET = ((4, (1,), (0, 1)), (4, (2, 3), (1, 2, 4)), (4, (1, 2, 3, 4), (0, 1, 2, 3, 4)), (6, (2,), (3, 4)),
         (6, (1, 6), (0,)), (6, (), ()), LIFE, (8, (2, 4, 7), (0, 1, 5)), (8, (), tuple(range(9))), (8, (1,), ()))
LOUD = tuple((kind, born, stay) for kind in KINDS for born in ((0,), (0, 2, 3), tuple(range(kind + 1)))
             for stay in ((), (0, 2), tuple(range(kind + 1))))

# Live cells and open ones.
BOTH = (
    ([], []), ([], [(0, 0)]), ([(0, 0)], []), (GLIDER, []), ([(0, 0)], [(0, 1)]), (BLINKER, [(1, 0), (1, 2)]),
    ([], [(0, 0), (0, 1), (1, 0), (1, 1)]), ([(1, 1)], [(0, 0), (0, 1), (1, 0), (2, 2)]),
    ([(-1, 0), (3, 1)], [(0, 0), (1, 0), (2, 0)]), (BLOCK, [(2, 2), (3, 2), (9, 9)]),
    ([(0, 0), (0, 2), (2, 0)], [(0, 1), (1, 1), (1, 2), (2, 2)]),
)


def chosen(live, free):
    """All pictures that are one of them."""
    for many in range(len(free) + 1):
        for some in itertools.combinations(free, many):
            yield sorted(live + list(some))


def model_maybe(answers):
    """True, False or None, by whether all answers, none or some are true."""
    return True if all(answers) else None if any(answers) else False


def model_maybe_next(told, live, free):
    later = [model_next(told, cells) for cells in chosen(live, free)]
    states = {cell: model_maybe([cell in turn for turn in later]) for cell in model_near(live + free)}
    return tuple([cell for cell in sorted(states) if states[cell] is state] for state in (True, None))


def model_maybe_after(told, live, free, many):
    for turn in range(many):
        live, free = model_maybe_next(told, live, free)
    return (live, free)


class MaybeComesTest(Case):

    def test_by_hand(self):
        self.tells(True, maybe_comes, LIFE, True, 2, 3)
        self.tells(None, maybe_comes, LIFE, True, 2, 4)
        self.tells(False, maybe_comes, LIFE, True, 4, 8)
        self.tells(None, maybe_comes, LIFE, False, 2, 3)
        self.tells(True, maybe_comes, LIFE, False, 3, 3)
        self.tells(True, maybe_comes, LIFE, None, 3, 3)
        self.tells(None, maybe_comes, LIFE, None, 2, 2)
        self.tells(False, maybe_comes, LIFE, None, 0, 1)
        self.tells(True, maybe_comes, (4, (0,), (0,)), None, 0, 0)

    def test_all_states_and_counts(self):
        for told in QUIET + LOUD:
            kind, born, stay = told
            for state, states in ((True, [True]), (False, [False]), (None, [True, False])):
                for low in range(kind + 1):
                    for high in range(low, kind + 1):
                        answers = [count in (stay if alive else born)
                                   for alive in states for count in range(low, high + 1)]
                        self.tells(model_maybe(answers), maybe_comes, told, state, low, high)

    def test_all_rules_of_four(self):
        for born in rows_of_counts(0, 4):
            for stay in rows_of_counts(0, 4):
                for state, rows in ((True, [stay]), (False, [born]), (None, [born, stay])):
                    for low, high in ((0, 0), (0, 4), (1, 2), (3, 3), (2, 4)):
                        answers = [count in row for row in rows for count in range(low, high + 1)]
                        self.assertIs(maybe_comes((4, born, stay), state, low, high), model_maybe(answers))


class MaybeNextTest(Case):

    def test_by_hand(self):
        self.tells(([], []), maybe_next, LIFE, [], [])
        self.tells(([(1, 0), (1, 1), (1, 2)], []), maybe_next, LIFE, BLINKER, [])
        self.tells(([], [(0, 0)]), maybe_next, (4, (), (0,)), [], [(0, 0)])
        self.tells(([], [(-1, 0), (0, -1), (0, 1), (1, 0)]), maybe_next, (4, (1,), ()), [], [(0, 0)])
        self.tells(([(0, 0)], []), maybe_next, (4, (), (0,)), [(0, 0)], [])
        # With the fourth cell or without, three of the block make it.
        self.tells((BLOCK, []), maybe_next, LIFE, BLOCK[:3], [(1, 1)])

    def test_through_all_pictures(self):
        for told in QUIET:
            for live, free in BOTH:
                self.tells(model_maybe_next(told, live, free), maybe_next, told, live, free)

    def test_each_open_cell_beside_each_live_one(self):
        cells = [(x, y) for x in range(3) for y in range(2)]
        for told in QUIET:
            for states in list(itertools.product((True, False, None), repeat=6))[::11]:
                live = [cell for cell, state in zip(cells, states) if state]
                free = [cell for cell, state in zip(cells, states) if state is None]
                self.assertEqual(maybe_next(told, live, free), model_maybe_next(told, live, free), (told, states))

    def test_no_open_cells(self):
        for told in QUIET:
            for cells in ([], [(0, 0)], BLOCK, BLINKER, GLIDER):
                self.tells((model_next(told, cells), []), maybe_next, told, cells, [])

    def test_far_cells_and_turned_ones(self):
        for told in QUIET:
            for turning in model_turnings(told[0])[::3]:
                for live, free in BOTH:
                    wanted = tuple(model_moved(model_turned(cells, turning), (FAR, -FAR))
                                   for cells in model_maybe_next(told, live, free))
                    there = [model_moved(model_turned(cells, turning), (FAR, -FAR)) for cells in (live, free)]
                    self.assertEqual(maybe_next(told, *there), wanted)

    def test_loud(self):
        for told in LOUD:
            for live, free in BOTH:
                self.refuses(Loud, maybe_next, told, live, free)


class MaybeAfterTest(Case):

    def test_no_turns(self):
        for told in QUIET:
            for live, free in BOTH:
                self.tells((live, free), maybe_after, told, live, free, 0)
                answer = maybe_after(told, live, free, 0)
                self.assertFalse(answer[0] is live or answer[1] is free)

    def test_one_turn_and_the_next(self):
        for told in QUIET:
            for live, free in BOTH:
                once = maybe_next(told, live, free)
                self.tells(once, maybe_after, told, live, free, 1)
                self.tells(maybe_next(told, *once), maybe_after, told, live, free, 2)
                self.tells(maybe_after(told, *once, 3), maybe_after, told, live, free, 4)

    def test_through_all_pictures_turn_by_turn(self):
        # Rules by which few cells are open at the second turn, so that all pictures can be gone through.
        for told in ((4, (), (0, 2)), (6, (5,), (1, 2)), (8, (), (2, 3)), (8, (5,), (2, 3, 4))):
            for live, free in BOTH:
                for many in (1, 2, 3):
                    self.tells(model_maybe_after(told, live, free, many), maybe_after, told, live, free, many)

    def test_each_picture_has_one_of_those(self):
        for told in QUIET:
            for live, free in BOTH:
                for many in (2, 6):
                    sure, perhaps = maybe_after(told, live, free, many)
                    self.assertEqual(set(sure) & set(perhaps), set())
                    for cells in chosen(live, free):
                        later = after(told, cells, many)
                        self.assertLessEqual(set(sure), set(later))
                        self.assertLessEqual(set(later), set(sure) | set(perhaps))

    def test_not_each_of_those_need_come(self):
        # At turn 1 all four neighbours live, or none, which the second turn doesn't know.
        told, free = (4, (1,), ()), [(0, 0)]
        live, perhaps = maybe_after(told, [], free, 2)
        self.assertEqual(live, [])
        self.assertIn((0, 0), perhaps)
        self.assertEqual([(0, 0) in after(told, cells, 2) for cells in chosen([], free)], [False, False])

    def test_no_open_cells(self):
        for told in QUIET:
            for cells in ([], [(0, 0)], BLOCK, GLIDER):
                self.tells((model_after(told, cells, 6), []), maybe_after, told, cells, [], 6)

    def test_loud(self):
        for told in LOUD:
            for live, free in BOTH:
                for many in (0, 1, 6):
                    self.refuses(Loud, maybe_after, told, live, free, many)


if __name__ == "__main__":
    unittest.main()
