"""Offsets, turnings and forms (points 2, 5, 6 and 7)."""

import unittest

from cellships.forms import are_alike, form, offsets, turned, turnings
from tests.helper import (BLINKER, BLOCK, FAR, GLIDER, KINDS, MODEL_OFFSETS, MOST, Case, boxed, model_moved,
                          model_turned, model_turnings)

HUGE = 10 ** 75


def model_laid(cells):
    if not cells:
        return []
    return model_moved(cells, (-min(x for x, y in cells), -min(y for x, y in cells)))


def model_form(kind, cells):
    return min(model_laid(model_turned(cells, turning)) for turning in model_turnings(kind))


def can_become(kind, one, other):
    """Whether one can be turned and moved to the other, found without forms."""
    if len(one) != len(other) or not one:
        return len(one) == len(other)
    for turning in model_turnings(kind):
        cells = model_turned(one, turning)
        if model_moved(cells, (other[0][0] - cells[0][0], other[0][1] - cells[0][1])) == other:
            return True
    return False


class OffsetsTest(Case):

    def test_all_of_each_kind_rising(self):
        self.tells([(-1, 0), (0, -1), (0, 1), (1, 0)], offsets, 4)
        self.tells([(-1, -1), (-1, 0), (0, -1), (0, 1), (1, 0), (1, 1)], offsets, 6)
        self.tells([(-1, -1), (-1, 0), (-1, 1), (0, -1), (0, 1), (1, -1), (1, 0), (1, 1)], offsets, 8)

    def test_as_the_model_has_them(self):
        for kind in KINDS:
            self.tells(sorted(MODEL_OFFSETS[kind]), offsets, kind)


class TurningsTest(Case):

    def test_all_and_no_other_rising(self):
        for kind in KINDS:
            self.tells(model_turnings(kind), turnings, kind)

    def test_how_many(self):
        self.assertEqual([len(turnings(kind)) for kind in KINDS], [8, 12, 8])

    def test_each_keeps_the_offsets(self):
        for kind in KINDS:
            self.assertIn((1, 0, 0, 1), turnings(kind))
            for turning in turnings(kind):
                self.tells(offsets(kind), turned, offsets(kind), turning)

    def test_kinds_are_told_anew_one_beside_the_other(self):
        told = turnings(4)
        told.clear()
        self.assertEqual(len(turnings(8)), 8)
        self.assertEqual(len(turnings(4)), 8)


class TurnedTest(Case):

    def test_by_hand(self):
        corner = [(0, 0), (0, 1), (2, 0)]
        self.tells([(0, 0), (0, 2), (1, 0)], turned, corner, (0, 1, 1, 0))
        self.tells([(-1, 0), (0, 0), (0, 2)], turned, corner, (0, -1, 1, 0))
        self.tells([(0, -2), (0, 0), (1, 0)], turned, corner, (0, 1, -1, 0))
        self.tells([(-2, 0), (0, 0), (0, 1)], turned, corner, (-1, 0, 0, 1))
        self.tells([(0, -1), (0, 0), (2, 0)], turned, corner, (1, 0, 0, -1))
        self.tells([(-1, 0), (0, 0), (2, 2)], turned, corner, (1, -1, 1, 0))

    def test_by_each_turning(self):
        for kind in KINDS:
            for turning in model_turnings(kind):
                for cells in ([], GLIDER, BLOCK, [(-3, 2), (0, -8), (1, 0)], [(FAR, -FAR), (FAR, 1 - FAR)]):
                    self.tells(model_turned(cells, turning), turned, cells, turning)

    def test_nothing_turned_tells_a_new_list(self):
        for cells in ([], GLIDER):
            self.tells(cells, turned, cells, (1, 0, 0, 1))
            self.assertIsNot(turned(cells, (1, 0, 0, 1)), cells)

    def test_some_turning_leads_back(self):
        for kind in KINDS:
            for turning in model_turnings(kind):
                there = turned(GLIDER, turning)
                back = [other for other in turnings(kind) if turned(there, other) == GLIDER]
                # No turning but (1, 0, 0, 1) leaves this glider as it is, so one alone leads back.
                self.assertEqual(len(back), 1)
                self.tells(GLIDER, turned, there, back[0])

    def test_more_than_sixty_figures(self):
        self.tells([(-HUGE, 1), (HUGE, 0)], turned, [(0, HUGE), (1, -HUGE)], (0, 1, 1, 0))
        self.tells([(0, MOST), (1, 1 - MOST)], turned, [(MOST, MOST), (1 - MOST, 2 - MOST)], (-1, 1, 1, 0))


class FormTest(Case):

    def test_by_hand(self):
        self.tells([(0, 0), (0, 1), (0, 2)], form, 4, BLINKER)
        self.tells([(0, 0), (0, 1), (1, 0)], form, 8, [(6, 6), (7, 5), (7, 6)])
        self.tells([(0, 0), (0, 1)], form, 6, [(4, 4), (5, 5)])
        self.tells([(0, 0), (1, 1)], form, 4, [(4, 4), (5, 5)])
        self.tells([(0, 0), (1, 1)], form, 8, [(4, 5), (5, 4)])
        self.tells([(0, 0), (1, 2)], form, 6, [(4, 5), (5, 4)])

    def test_no_cells(self):
        for kind in KINDS:
            self.tells([], form, kind, [])

    def test_all_pictures_of_a_box(self):
        for kind in KINDS:
            for cells in boxed(2, 3):
                self.tells(model_form(kind, cells), form, kind, cells)
                self.tells(model_form(kind, cells), form, kind, model_moved(cells, (-5, 11)))

    def test_larger_pictures(self):
        for kind in KINDS:
            for cells in (GLIDER, [(-9, 4), (-3, 7), (0, -2), (0, 9), (5, 1)], [(0, y * y) for y in range(150)]):
                self.tells(model_form(kind, cells), form, kind, cells)

    def test_far_from_nought(self):
        for kind in KINDS:
            for cells in (BLOCK, GLIDER, [(0, 0), (0, 4), (1, 9)]):
                for move in ((FAR, -FAR), (-MOST, MOST - 9), (HUGE, HUGE)):
                    self.tells(model_form(kind, cells), form, kind, model_moved(cells, move))

    def test_wide_pictures(self):
        cells = [(-FAR, 0), (0, FAR), (1, 1)]
        for kind in KINDS:
            self.tells(model_form(kind, cells), form, kind, cells)

    def test_a_form_is_its_own_form(self):
        for kind in KINDS:
            for cells in (BLOCK, GLIDER, [(0, 0), (0, 4), (1, 9)]):
                self.tells(form(kind, cells), form, kind, form(kind, cells))

    def test_one_form_for_all_turnings(self):
        for kind in KINDS:
            for turning in model_turnings(kind):
                for cells in (GLIDER, BLOCK, [(0, 0), (0, 4), (1, 9), (2, -3)]):
                    self.tells(form(kind, cells), form, kind, model_moved(model_turned(cells, turning), (7, -8)))


class AlikeTest(Case):

    def test_alike_for_one_kind_and_not_for_another(self):
        side, slant, cross = [(0, 0), (1, 0)], [(0, 0), (1, 1)], [(0, 1), (1, 0)]
        for kind, one, other, wanted in (
                (4, side, slant, False), (6, side, slant, True), (8, side, slant, False),
                (4, slant, cross, True), (6, slant, cross, False), (8, slant, cross, True),
                (4, side, cross, False), (6, side, cross, False), (8, side, cross, False)):
            self.tells(wanted, are_alike, kind, one, other)
            self.tells(wanted, are_alike, kind, other, one)

    def test_without_cells(self):
        for kind in KINDS:
            self.tells(True, are_alike, kind, [], [])
            self.tells(False, are_alike, kind, [], [(0, 0)])
            self.tells(False, are_alike, kind, [(0, 0)], [])

    def test_other_numbers_of_cells(self):
        for kind in KINDS:
            self.tells(False, are_alike, kind, BLOCK, BLINKER)
            self.tells(False, are_alike, kind, BLOCK, BLOCK[:3])

    def test_mirrored_ones_are_alike(self):
        hook = [(0, 0), (0, 1), (0, 2), (1, 2)]
        for kind in (4, 8):
            self.tells(True, are_alike, kind, hook, [(0, 2), (1, 0), (1, 1), (1, 2)])
        self.tells(False, are_alike, 6, hook, [(0, 2), (1, 0), (1, 1), (1, 2)])
        self.tells(True, are_alike, 6, hook, [(0, 0), (1, 0), (2, 0), (2, 1)])

    def test_just_where_one_can_be_turned_and_moved_to_the_other(self):
        pictures = [cells for cells in boxed(2, 3) if len(cells) < 4]
        for kind in KINDS:
            for one in pictures:
                for other in pictures:
                    wanted = can_become(kind, one, other)
                    self.assertIs(are_alike(kind, one, other), wanted, (kind, one, other))
                    self.assertEqual(form(kind, one) == form(kind, other), wanted)

    def test_far_and_turned(self):
        for kind in KINDS:
            for turning in model_turnings(kind):
                other = model_moved(model_turned(GLIDER, turning), (-FAR, HUGE))
                self.tells(True, are_alike, kind, GLIDER, other)
                self.tells(False, are_alike, kind, GLIDER, other[:-1] + [(other[-1][0] + 1, other[-1][1])])


if __name__ == "__main__":
    unittest.main()
