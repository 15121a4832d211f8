"""Rules between (points 2 and 33)."""

import unittest

from cellships.errors import Loud
from cellships.ranges import first_unlike, is_between, range_of
from tests.helper import (BLINKER, BLOCK, FAR, GLIDER, KINDS, LIFE, Case, boxed, model_count, model_moved,
                          model_near, model_turns, rows_of_counts)

RULES = (
    (4, (1,), (0, 1)), (4, (2, 3), (0, 4)), (4, (), (0, 1, 2, 3, 4)), (4, (1, 2, 3, 4), ()),
    (6, (2,), (3, 4)), (6, (), ()), (6, (1, 3, 5), (0, 2, 4, 6)), LIFE, (8, (2,), ()), (8, (3, 6), (0, 2, 3)),
)
PICTURES = ([], [(0, 0)], BLOCK, BLINKER, GLIDER, [(-2, 1), (-1, -1), (0, 0), (0, 1), (1, 3), (2, -2)])


def model_range(told, cells, many):
    kind, born, stay = told
    seen = {(False, 0)}
    for now in model_turns(told, cells, many)[:many]:
        seen |= {(cell in now, model_count(kind, now, cell)) for cell in model_near(now)}
    both = []
    for alive, held in ((False, born), (True, stay)):
        both.append(tuple(count for count in held if (alive, count) in seen))
        both.append(tuple(count for count in range(kind + 1) if (alive, count) not in seen or count in held))
    return tuple(both)


def flipped(counts, count):
    """The counts with one more, or one less."""
    return tuple(sorted(set(counts) ^ {count}))


def neighbours(told):
    """All quiet rules that differ from one in one count or in two."""
    kind, born, stay = told
    ones = [(kind, flipped(born, count), stay) for count in range(1, kind + 1)]
    ones += [(kind, born, flipped(stay, count)) for count in range(kind + 1)]
    twos = [(kind, one[1], flipped(one[2], count)) for one in ones for count in range(kind + 1)]
    return ones + twos


class RangeTest(Case):

    def test_by_hand(self):
        self.tells(((3,), (3, 4, 5, 6, 7, 8), (2,), (0, 2, 3, 4, 5, 6, 7, 8)), range_of, LIFE, BLINKER, 1)
        self.tells(((), (3, 4, 5, 6, 7, 8), (3,), (0, 1, 2, 3, 4, 5, 6, 7, 8)), range_of, LIFE, BLOCK, 5)
        self.tells(((1,), (1, 2, 3, 4), (), (1, 2, 3, 4)), range_of, (4, (1,), ()), [(0, 0)], 1)
        self.tells(((1,), (1, 3), (), (1, 2, 3, 4)), range_of, (4, (1,), ()), [(0, 0)], 2)
        self.tells(((), (2, 3, 4, 5, 6), (0,), (0, 1, 2, 3, 4, 5, 6)), range_of, (6, (), (0,)), [(0, 0)], 3)

    def test_no_turns_let_all_quiet_rules_by(self):
        for told in RULES:
            kind = told[0]
            counts = tuple(range(kind + 1))
            for cells in PICTURES:
                self.tells(((), counts[1:], (), counts), range_of, told, cells, 0)

    def test_without_cells_too(self):
        for told in RULES:
            counts = tuple(range(told[0] + 1))
            for many in (0, 1, 7, 30):
                self.tells(((), counts[1:], (), counts), range_of, told, [], many)

    def test_as_the_model(self):
        for told in RULES:
            for cells in list(PICTURES) + boxed(2, 2):
                for many in (1, 2, 4):
                    self.tells(model_range(told, cells, many), range_of, told, cells, many)

    def test_thirty_turns(self):
        self.tells(model_range(LIFE, GLIDER, 4), range_of, LIFE, GLIDER, 30)
        self.tells(model_range(LIFE, BLINKER, 2), range_of, LIFE, BLINKER, 30)
        self.tells(model_range(LIFE, [(0, 0)], 1), range_of, LIFE, [(0, 0)], 30)

    def test_far_pictures(self):
        for told in RULES:
            for move in ((FAR, -FAR), (-FAR, FAR)):
                self.tells(model_range(told, GLIDER, 3), range_of, told, model_moved(GLIDER, move), 3)

    def test_just_the_rules_between_show_the_same_turns(self):
        everything = [(4, born, stay) for born in rows_of_counts(1, 4) for stay in rows_of_counts(0, 4)]
        for told in ((4, (1,), (0, 1)), (4, (2,), (1, 2)), (4, (2, 3), (0, 4))):
            for cells in ([(0, 0)], BLOCK, GLIDER):
                for many in (0, 1, 3):
                    between = range_of(told, cells, many)
                    turns = model_turns(told, cells, many)
                    for other in everything:
                        same = model_turns(other, cells, many) == turns
                        self.assertIs(is_between(between, other), same, (told, cells, many, other))

    def test_rules_close_by(self):
        for told in (LIFE, (6, (2,), (3, 4)), (8, (3, 6), (0, 2, 3))):
            for cells in (BLINKER, GLIDER):
                for many in (1, 3):
                    between = range_of(told, cells, many)
                    turns = model_turns(told, cells, many)
                    for other in [told] + neighbours(told):
                        same = model_turns(other, cells, many) == turns
                        self.assertIs(is_between(between, other), same, (told, cells, many, other))

    def test_the_rule_itself_and_both_ends_lie_between(self):
        for told in RULES:
            for cells in PICTURES:
                for many in (0, 1, 4):
                    between = range_of(told, cells, many)
                    born_least, born_most, stay_least, stay_most = between
                    self.tells(True, is_between, between, told)
                    for born in (born_least, born_most):
                        for stay in (stay_least, stay_most):
                            other = (told[0], born, stay)
                            self.tells(True, is_between, between, other)
                            self.tells(None, first_unlike, told, other, cells, many)

    def test_loud(self):
        for kind in KINDS:
            for cells in PICTURES:
                for many in (0, 1, 30):
                    self.refuses(Loud, range_of, (kind, (0,), ()), cells, many)
                    self.refuses(Loud, range_of, (kind, (0, 1, 3), (0, 2)), cells, many)


class BetweenTest(Case):

    def test_each_bound(self):
        told = ((2,), (2, 3), (1,), (0, 1, 4))
        for born in rows_of_counts(1, 4):
            for stay in rows_of_counts(0, 4):
                wanted = born in ((2,), (2, 3)) and stay in ((1,), (0, 1), (1, 4), (0, 1, 4))
                self.tells(wanted, is_between, told, (4, born, stay))

    def test_each_of_the_four_decides(self):
        told = ((3,), (3, 6), (2, 3), (0, 2, 3))
        self.tells(True, is_between, told, (8, (3,), (2, 3)))
        self.tells(True, is_between, told, (8, (3, 6), (0, 2, 3)))
        self.tells(False, is_between, told, (8, (), (2, 3)))
        self.tells(False, is_between, told, (8, (6,), (2, 3)))
        self.tells(False, is_between, told, (8, (3, 7), (2, 3)))
        self.tells(False, is_between, told, (8, (3,), (2,)))
        self.tells(False, is_between, told, (8, (3,), (0, 3)))
        self.tells(False, is_between, told, (8, (3,), (2, 3, 8)))

    def test_loud(self):
        for kind in KINDS:
            wide = ((), tuple(range(1, kind + 1)), (), tuple(range(kind + 1)))
            self.refuses(Loud, is_between, wide, (kind, (0,), ()))
            self.refuses(Loud, is_between, wide, (kind, (0, 1), (0,)))
            self.refuses(Loud, is_between, ((1,), (1,), (1,), (1,)), (kind, (0,), ()))
            self.tells(True, is_between, wide, (kind, (), (0,)))


class FirstUnlikeTest(Case):

    def test_by_hand(self):
        self.tells(1, first_unlike, LIFE, (8, (3,), (3,)), BLINKER, 60)
        self.tells(1, first_unlike, LIFE, (8, (), (2, 3)), BLINKER, 1)
        self.tells(None, first_unlike, LIFE, (8, (), (2, 3)), BLINKER, 0)
        self.tells(None, first_unlike, LIFE, (8, (3, 6), (2, 3)), BLINKER, 60)
        self.tells(None, first_unlike, LIFE, LIFE, GLIDER, 60)
        self.tells(2, first_unlike, (4, (1,), ()), (4, (1, 2), ()), [(0, 0)], 60)
        self.tells(2, first_unlike, (4, (1,), ()), (4, (1, 2), ()), [(0, 0)], 2)
        self.tells(None, first_unlike, (4, (1,), ()), (4, (1, 2), ()), [(0, 0)], 1)

    def test_without_cells(self):
        for most in (0, 1, 60):
            self.tells(None, first_unlike, LIFE, (8, (1, 2), ()), [], most)

    def test_pictures_that_grow_alike_again_are_unlike_at_the_first_turn(self):
        # By the one rule the pair is gone at turn 1, by the other at turn 2.
        one, other = (4, (), ()), (4, (2,), ())
        pair = [(0, 0), (1, 1)]
        self.assertEqual(model_turns(one, pair, 2)[1], [])
        self.assertEqual(len(model_turns(other, pair, 2)[1]), 2)
        self.tells(1, first_unlike, one, other, pair, 60)

    def test_as_the_model(self):
        for told in RULES:
            for other in neighbours(told)[::5]:
                for cells in (BLINKER, GLIDER, [(0, 0)]):
                    turns = zip(model_turns(told, cells, 4), model_turns(other, cells, 4))
                    unlike = [turn for turn, (one, two) in enumerate(turns) if one != two]
                    for most in (0, 1, 2, 4):
                        wanted = unlike[0] if unlike and unlike[0] <= most else None
                        self.assertEqual(first_unlike(told, other, cells, most), wanted)
                        self.assertEqual(first_unlike(other, told, cells, most), wanted)

    def test_far_pictures(self):
        far = model_moved(GLIDER, (-FAR, FAR))
        self.tells(first_unlike(LIFE, (8, (3, 5), (2, 3)), GLIDER, 9), first_unlike, LIFE, (8, (3, 5), (2, 3)), far, 9)

    def test_loud(self):
        for kind in KINDS:
            quiet, loud, louder = (kind, (2,), (0,)), (kind, (0,), ()), (kind, (0, 2), (0,))
            for cells in PICTURES:
                for most in (0, 1, 60):
                    self.refuses(Loud, first_unlike, loud, quiet, cells, most)
                    self.refuses(Loud, first_unlike, quiet, loud, cells, most)
                    self.refuses(Loud, first_unlike, louder, loud, cells, most)
                    self.refuses(Loud, first_unlike, loud, loud, cells, most)


if __name__ == "__main__":
    unittest.main()
