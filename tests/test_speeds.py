"""How fast things can go (points 2, 3 and 17 to 19)."""

import itertools
import unittest

from cellships.errors import Loud
from cellships.fates import fate
from cellships.planes import next_turn
from cellships.speeds import grower, growth, height, shows_too_fast, too_fast
from tests.helper import (BLOCK, FAR, GLIDER, KINDS, LIFE, MODEL_OFFSETS, Case, boxed, model_moved, model_next,
                          rows_of_counts)

WAYS = list(itertools.product(range(-4, 5), repeat=2))
FAR_WAYS = [(FAR, 0), (0, -FAR), (FAR, FAR), (-FAR, FAR), (FAR, -1), (1 - FAR, 2 * FAR), (3, FAR)]
FEW_WAYS = [(0, 0), (1, 0), (0, 1), (-1, 0), (0, -1), (1, 1), (1, -1), (-1, -1), (2, 1), (-1, 3), (4, -3)]
RULES = (
    (4, (1,), (0, 1)), (4, (2,), (0, 4)), (4, (3,), ()), (4, (4,), (1,)), (4, (), (0, 1, 2, 3, 4)),
    (6, (1, 6), (0,)), (6, (2, 3), (3, 4)), (6, (3,), ()), (6, (4, 5), (2,)), (6, (), ()), (6, (6,), (0,)),
    LIFE, (8, (1,), ()), (8, (2, 7), ()), (8, (4,), (4,)), (8, (5,), (0,)), (8, (8,), (0,)), (8, (), (2, 3)),
)
LOUD_RULES = tuple((kind, born, stay) for kind in KINDS for born in ((0,), (0, 3)) for stay in ((), (2,)))


def model_height(cells, way):
    return max(way[0] * x + way[1] * y for x, y in cells)


def model_growth(rule, way):
    kind, born, stay = rule
    numbers = sorted([-(way[0] * dx + way[1] * dy) for dx, dy in MODEL_OFFSETS[kind]], reverse=True)
    return max(numbers[min(born) - 1], 0) if born else 0


def model_shows(rule, many, move, way):
    return way[0] * move[0] + way[1] * move[1] > many * model_growth(rule, way)


class HeightTest(Case):

    def test_by_hand(self):
        self.tells(0, height, [(0, 0)], (3, -4))
        self.tells(2, height, GLIDER, (1, 0))
        self.tells(0, height, GLIDER, (-1, 0))
        self.tells(4, height, GLIDER, (1, 1))
        self.tells(1, height, GLIDER, (1, -1))
        self.tells(-5, height, [(-5, 9)], (1, 0))
        self.tells(-9, height, [(-5, 9), (-4, 10)], (0, -1))
        self.tells(0, height, GLIDER, (0, 0))

    def test_as_the_model(self):
        for way in FEW_WAYS + FAR_WAYS:
            for cells in (GLIDER, BLOCK, [(-7, 3)], model_moved(GLIDER, (-FAR, FAR)), boxed(3, 3)[-1]):
                self.tells(model_height(cells, way), height, cells, way)


class GrowthTest(Case):

    def test_by_hand(self):
        self.tells(1, growth, LIFE, (1, 0))
        self.tells(1, growth, LIFE, (0, -1))
        self.tells(1, growth, LIFE, (1, 1))
        self.tells(2, growth, (8, (1,), ()), (1, 1))
        self.tells(0, growth, (8, (4,), ()), (1, 0))
        self.tells(1, growth, (8, (3,), ()), (1, 0))
        self.tells(1, growth, (4, (1, 4), ()), (1, 0))
        self.tells(0, growth, (4, (2,), ()), (1, 0))
        self.tells(1, growth, (4, (2,), ()), (1, 1))
        self.tells(0, growth, (4, (3,), ()), (1, 1))
        self.tells(1, growth, (6, (1,), ()), (1, 0))
        self.tells(1, growth, (6, (2,), ()), (1, 0))
        self.tells(0, growth, (6, (3,), ()), (1, 0))
        self.tells(2, growth, (6, (1,), ()), (1, 1))
        self.tells(1, growth, (6, (1,), ()), (1, -1))
        self.tells(FAR, growth, LIFE, (FAR, 0))
        self.tells(FAR, growth, LIFE, (FAR, -FAR))

    def test_as_the_model(self):
        for told in RULES:
            for way in WAYS:
                self.assertEqual(growth(told, way), model_growth(told, way), (told, way))
            for way in FEW_WAYS + FAR_WAYS:
                self.tells(model_growth(told, way), growth, told, way)

    def test_nowhere(self):
        for told in RULES:
            self.tells(0, growth, told, (0, 0))

    def test_without_a_birth(self):
        for kind in KINDS:
            for way in FEW_WAYS + FAR_WAYS:
                self.tells(0, growth, (kind, (), (0, 1, 2)), way)

    def test_no_turn_is_higher(self):
        for told in RULES:
            for cells in boxed(2, 3)[1:] + boxed(3, 3)[40::13]:
                turn = model_next(told, cells)
                for way in FEW_WAYS if turn else []:
                    most = model_height(cells, way) + growth(told, way)
                    self.assertLessEqual(model_height(turn, way), most, (told, cells, way))

    def test_loud(self):
        for told in LOUD_RULES:
            for way in FEW_WAYS + FAR_WAYS:
                self.refuses(Loud, growth, told, way)


class TooFastTest(Case):

    def ways(self, told, many, move):
        return [way for way in WAYS if model_shows(told, many, move, way)]

    def holds(self, told, many, move):
        """Any one of the ways is told, or None where there is none."""
        shown = self.ways(told, many, move)
        answer = self.told(too_fast, told, many, move)
        if shown:
            self.assertIn(answer, shown, (told, many, move))
            self.assertIs(type(answer), tuple)
        else:
            self.assertIsNone(answer, (told, many, move))

    def test_by_hand(self):
        self.tells(None, too_fast, LIFE, 4, (1, 1))
        self.tells(None, too_fast, LIFE, 3, (1, 1))
        self.assertIsNotNone(too_fast(LIFE, 2, (1, 1)))
        self.assertIsNotNone(too_fast(LIFE, 4, (3, 0)))
        self.tells(None, too_fast, LIFE, 4, (2, 0))
        self.assertIsNotNone(too_fast(LIFE, 1, (1, 1)))
        self.tells(None, too_fast, LIFE, 1, (0, 0))
        self.assertIsNotNone(too_fast(LIFE, FAR, (FAR // 2 + 1, 0)))
        self.tells(None, too_fast, LIFE, FAR, (FAR // 2, 0))
        self.assertIsNotNone(too_fast((8, (1,), ()), FAR, (0, -FAR - 1)))
        self.tells(None, too_fast, (8, (1,), ()), FAR, (0, -FAR))
        self.assertIsNotNone(too_fast((4, (2,), ()), FAR, (0, 1)))

    def test_moves_close_by(self):
        for told in RULES:
            for many in (1, 2, 4):
                for move in itertools.product((-5, -2, -1, 0, 1, 3), repeat=2):
                    self.holds(told, many, move)

    def test_forty_figures(self):
        for told in RULES:
            for many in (1, 3, FAR, FAR - 1):
                for move in ((FAR, 0), (0, -FAR), (FAR, FAR), (FAR - 1, -1), (-FAR, 1), (1, 0), (0, 0)):
                    self.holds(told, many, move)

    def test_no_move_is_too_slow(self):
        for told in RULES:
            for many in (1, 60, FAR):
                self.tells(None, too_fast, told, many, (0, 0))

    def test_without_a_birth_each_move_is_too_fast(self):
        for kind in KINDS:
            for many in (1, FAR):
                for move in ((1, 0), (0, -1), (-FAR, FAR), (3, 5)):
                    self.holds((kind, (), (0, 2)), many, move)
                    self.assertIsNotNone(too_fast((kind, (), (0, 2)), many, move))

    def test_nothing_is_too_fast_that_goes(self):
        for told in (LIFE, (8, (2, 4, 5), (8,)), (6, (2, 4, 5, 6), (2, 4, 5, 6))):
            for cells in (GLIDER, [(0, 0), (0, 3), (1, 1), (1, 2)], [(0, 0), (0, 1), (1, 2), (1, 3), (2, 2), (2, 4)]):
                answer = fate(told, cells, 6)
                if answer[0] == "comes":
                    for times in (1, 2, FAR):
                        move = (answer[3][0] * times, answer[3][1] * times)
                        self.tells(None, too_fast, told, answer[2] * times, move)

    def test_loud(self):
        for told in LOUD_RULES:
            for many in (1, FAR):
                for move in ((0, 0), (5, 5), (FAR, 0)):
                    self.refuses(Loud, too_fast, told, many, move)


class ShowsTooFastTest(Case):

    def test_by_hand(self):
        self.tells(True, shows_too_fast, LIFE, 1, (2, 0), (1, 0))
        self.tells(False, shows_too_fast, LIFE, 1, (1, 0), (1, 0))
        self.tells(False, shows_too_fast, LIFE, 2, (2, 0), (1, 0))
        self.tells(True, shows_too_fast, LIFE, 2, (3, 0), (1, 0))
        self.tells(False, shows_too_fast, LIFE, 2, (3, 0), (-1, 0))
        self.tells(False, shows_too_fast, LIFE, 2, (3, 0), (0, 0))
        self.tells(True, shows_too_fast, LIFE, FAR, (FAR + 1, 0), (FAR, 0))
        self.tells(False, shows_too_fast, LIFE, FAR, (FAR, 0), (FAR, 0))

    def test_as_the_model(self):
        answers = []
        for told in RULES:
            for many in (1, 2, 5, FAR):
                for move in ((0, 0), (1, 0), (-1, 2), (5, 5), (FAR, 0), (FAR + 1, -FAR)):
                    for way in FEW_WAYS + FAR_WAYS:
                        answers.append(shows_too_fast(told, many, move, way))
                        self.assertIs(answers[-1], model_shows(told, many, move, way))
        self.assertEqual(set(answers), {True, False})

    def test_with_care(self):
        for told in RULES:
            for move in ((1, 0), (FAR, -FAR)):
                for way in FEW_WAYS:
                    self.tells(model_shows(told, 3, move, way), shows_too_fast, told, 3, move, way)

    def test_what_is_told_is_shown(self):
        for told in RULES:
            for move in ((9, 0), (-3, 4), (FAR, FAR)):
                way = too_fast(told, 2, move)
                self.assertIsNotNone(way)
                self.tells(True, shows_too_fast, told, 2, move, way)

    def test_loud(self):
        for told in LOUD_RULES:
            for many in (1, FAR):
                for way in FEW_WAYS + FAR_WAYS:
                    self.refuses(Loud, shows_too_fast, told, many, (7, 7), way)


class GrowerTest(Case):

    def holds(self, told, way):
        most = model_growth(told, way)
        cells = self.told(grower, told, way)
        if most == 0:
            self.assertIsNone(cells, (told, way))
            return
        self.assertEqual(cells, sorted(set(cells)))
        turn = model_next(told, cells)
        self.assertEqual(model_height(turn, way), model_height(cells, way) + most, (told, way))
        self.assertEqual(next_turn(told, cells), turn)

    def test_higher_by_just_the_growth(self):
        for told in RULES:
            for way in FEW_WAYS + FAR_WAYS:
                self.holds(told, way)

    def test_all_ways_and_all_first_counts(self):
        for kind in KINDS:
            for count in range(1, kind + 1):
                for way in WAYS[::3]:
                    self.holds((kind, (count,), (0, kind)), way)

    def test_all_rules_of_four(self):
        for born in rows_of_counts(1, 4):
            for stay in rows_of_counts(0, 4)[::5]:
                for way in ((1, 0), (-1, 2), (1, 1)):
                    self.holds((4, born, stay), way)

    def test_none(self):
        for told in RULES:
            self.tells(None, grower, told, (0, 0))
        for way in FEW_WAYS + FAR_WAYS:
            self.tells(None, grower, (8, (), (2, 3)), way)
            self.tells(None, grower, (8, (8,), (2, 3)), way)

    def test_loud(self):
        for told in LOUD_RULES:
            for way in FEW_WAYS + FAR_WAYS:
                self.refuses(Loud, grower, told, way)


if __name__ == "__main__":
    unittest.main()
