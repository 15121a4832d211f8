"""Things that meet, and papers that they never do (points 2, 3, 27, 29 and 30)."""

import itertools
import math
import unittest

from cellships.errors import Loud, NoThing
from cellships.meets import first_touch, holds_apart, meets
from tests.helper import (BLINKER, BLOCK, FAR, GLIDER, KINDS, LIFE, MODEL_OFFSETS, MODEL_TURNINGS, MOST, Case, boxed,
                          model_hang, model_move, model_moved, model_turned, model_turns, put)

LOUD_RULES = tuple((kind, born, stay) for kind in KINDS for born in ((0,), (0, 3)) for stay in ((), (2,)))
SHIP = [(0, 0), (0, 2), (1, 3), (2, 3), (3, 0), (3, 3), (4, 1), (4, 2), (4, 3)]

# Rules, with things of them: that rest, that come again, that go, of many rounds.
WORLDS = (
    (LIFE, (BLOCK, BLINKER, GLIDER, SHIP, model_turned(GLIDER, (-1, 0, 0, 1)), model_turned(SHIP, (0, 1, 1, 0)))),
    ((8, (3, 4, 6, 8), (0, 3, 4, 5)), (
        [(0, 0), (0, 2), (1, 4)], [(0, 0), (0, 1), (0, 4), (1, 1), (1, 2)],
        [(0, 0), (0, 1), (0, 2), (0, 3), (1, 1), (1, 2)], [(0, 0), (0, 1), (0, 3), (1, 1)],
        [(0, 0), (0, 2), (1, 0), (1, 2), (2, 0), (2, 2)])),
    ((8, (3, 5, 8), (1, 2, 4)), (
        [(0, 0), (0, 2), (1, 0), (1, 2)], [(0, 0), (0, 2), (1, 0), (1, 1), (1, 2), (2, 1)],
        [(0, 0), (0, 1), (1, 0), (1, 1), (2, 1)], [(0, 1), (0, 2), (1, 0), (2, 1), (2, 2)])),
    ((8, (3, 4, 5, 8), (0, 3)), (
        [(0, 0), (1, 0), (1, 1), (2, 0)], [(0, 0), (0, 1), (0, 2), (1, 0), (1, 3), (2, 0), (2, 1), (2, 2)],
        [(0, 1), (0, 3), (0, 4), (1, 0), (1, 1), (1, 3)])),
    ((8, (2, 4, 5), (8,)), ([(0, 0), (0, 3), (1, 1), (1, 2)], [(0, 1), (0, 2), (1, 0), (1, 3)])),
    ((6, (2, 4, 5), (2, 4, 5)), (
        [(0, 1), (0, 2), (1, 0), (1, 1), (2, 0), (2, 2)], [(0, 0), (0, 1), (1, 1), (1, 2), (1, 3), (2, 1), (2, 2)])),
    ((4, (2, 3), (0, 1, 3)), (
        [(0, 0)], [(0, 0), (0, 1), (1, 0)], [(0, 0), (0, 1), (2, 1), (2, 2)],
        [(0, 0), (0, 1), (1, 0), (1, 1), (1, 2), (2, 0), (2, 1)])),
)
# Where the other one is laid, so that both lie in one box of 20 by 20.
PLACES = ((0, 0), (1, 0), (3, 0), (0, 4), (4, 1), (6, 6), (-5, 2), (3, -7), (9, 9), (-10, 10), (12, 0), (0, -12),
          (-13, -13), (13, 5), (-3, 14))
NO_THINGS = ([], [(0, 0)], GLIDER[:3], [(x, 0) for x in range(7)], [(0, 1), (1, 0), (1, 1), (1, 2), (2, 2)],
             put(BLOCK, [(9, 9)]), [(x, 0) for x in range(20)])


def model_thing(told, cells):
    """The turns up to where a picture comes again, and the move, or None where it is no thing."""
    rows = model_turns(told, cells, 6)
    for many in range(1, 7):
        move = model_move(cells, rows[many]) if cells else None
        if move is not None:
            return rows[:many], move
    return None


def model_at(thing, turn):
    rows, (dx, dy) = thing
    times = turn // len(rows)
    return [(x + times * dx, y + times * dy) for x, y in rows[turn % len(rows)]]


def model_touch(kind, one, other):
    return bool(model_hang(kind, one) & model_hang(kind, other))


def model_first(told, one, other, most):
    """The first turn, up to most, at which two things touch, or None."""
    one, other = model_thing(told, one), model_thing(told, other)
    for turn in range(most + 1):
        if model_touch(told[0], model_at(one, turn), model_at(other, turn)):
            return turn
    return None


def common(one, other):
    """The common round of two things, and how far the one drifts from the other in it."""
    many = math.lcm(len(one[0]), len(other[0]))
    moves = [[number * (many // len(rows)) for number in move] for rows, move in (one, other)]
    return many, (moves[0][0] - moves[1][0], moves[0][1] - moves[1][1])


def model_paper(told, one, other, turn, way):
    """Whether a turn and a way are a paper, as its text is written."""
    first = model_first(told, one, other, turn - 1)
    one, other = model_thing(told, one), model_thing(told, other)
    many, (vx, vy) = common(one, other)
    if turn < 0 or first is not None:
        return False
    if way is None:
        return (vx, vy) == (0, 0) and turn >= many
    a, b = way
    if a * vx + b * vy < 0:
        return False
    wide = max(a * dx + b * dy for dx, dy in MODEL_OFFSETS[told[0]])
    return all(min(a * x + b * y for x, y in model_at(one, later)) - max(a * x + b * y for x, y in model_at(other, later))
               > 2 * wide for later in range(turn, turn + many))


def pairs(step=1):
    """Rules with two things of them, the other one laid at many places."""
    number = 0
    for told, things in WORLDS:
        for one, other in itertools.product(things, repeat=2):
            for place in PLACES:
                number += 1
                if number % step == 0:
                    yield told, one, model_moved(other, place)


class FirstTouchTest(Case):

    def test_by_hand(self):
        self.tells(0, first_touch, LIFE, BLOCK, BLOCK, 0)
        self.tells(0, first_touch, LIFE, BLOCK, model_moved(BLOCK, (3, 0)), 0)
        self.tells(None, first_touch, LIFE, BLOCK, model_moved(BLOCK, (4, 0)), 60)
        self.tells(None, first_touch, LIFE, BLOCK, model_moved(BLOCK, (0, FAR)), 60)
        self.tells(1, first_touch, LIFE, BLINKER, model_moved(BLINKER, (0, 4)), 9)
        self.tells(None, first_touch, LIFE, BLINKER, model_moved(BLINKER, (0, 4)), 0)
        self.tells(None, first_touch, LIFE, BLINKER, model_moved(BLINKER, (0, 5)), 60)
        self.tells(None, first_touch, (4, (), (0,)), [(0, 0)], [(2, 1)], 5)
        self.tells(0, first_touch, (4, (), (0,)), [(0, 0)], [(1, 1)], 5)
        self.tells(None, first_touch, (6, (), (0,)), [(0, 0)], [(2, -1)], 5)
        self.tells(0, first_touch, (6, (), (0,)), [(0, 0)], [(2, 1)], 5)
        self.tells(0, first_touch, (8, (), (0,)), [(0, 0)], [(2, -2)], 5)

    def test_of_one_cell_each_around(self):
        for kind in KINDS:
            for place in itertools.product(range(-4, 5), repeat=2):
                wanted = 0 if model_touch(kind, [(0, 0)], [place]) else None
                self.assertEqual(first_touch((kind, (), (0,)), [(0, 0)], [place], 0), wanted)
                far = model_moved([place], (10 ** 59, -10 ** 59))
                self.assertEqual(first_touch((kind, (), ()), [(10 ** 59, -10 ** 59)], far, 3), wanted)

    def test_without_cells(self):
        for told in (LIFE, (4, (1,), ()), (6, (2,), (3,))):
            for cells in ([], BLOCK, GLIDER, [(MOST, -MOST)]):
                self.tells(None, first_touch, told, [], cells, 7)
                self.tells(None, first_touch, told, cells, [], 0)

    def test_as_the_model_both_ways_about(self):
        rules = (LIFE, (4, (1, 3), (1,)), (6, (2, 4), (0, 1)), (8, (2,), ()), (4, (2,), (0, 1, 2)), (8, (3,), (0, 1)))
        pictures = (BLOCK, GLIDER, [(0, 0)], [(0, 0), (1, 0)], [(0, 0), (0, 2), (2, 1), (6, 0)], boxed(3, 3)[200])
        for told in rules:
            for one, other in itertools.product(pictures, repeat=2):
                for place in ((0, 0), (2, 1), (5, 0), (4, -6), (-7, 7), (11, 2)):
                    laid = model_moved(other, place)
                    near = [model_touch(told[0], mine, its) for mine, its in
                            zip(model_turns(told, one, 8), model_turns(told, laid, 8))]
                    for most in (0, 1, 4, 8):
                        found = near[:most + 1]
                        wanted = found.index(True) if True in found else None
                        self.assertEqual(first_touch(told, one, laid, most), wanted, (told, one, laid, most))
                        self.assertEqual(first_touch(told, laid, one, most), wanted)

    def test_what_has_died_touches_nothing(self):
        self.tells(None, first_touch, LIFE, GLIDER, [(9, 9)], 60)
        self.tells(0, first_touch, LIFE, GLIDER, [(2, 0)], 60)
        self.tells(None, first_touch, LIFE, [(0, 0)], [(3, 0)], 60)

    def test_far_and_wide(self):
        near = put(BLOCK, model_moved(BLOCK, (FAR, 0)))
        self.tells(0, first_touch, LIFE, near, model_moved(BLOCK, (FAR + 2, 2)), 3)
        self.tells(None, first_touch, LIFE, near, model_moved(BLOCK, (FAR // 2, 2)), 3)
        self.tells(0, first_touch, LIFE, model_moved(BLOCK, (FAR + 2, 2)), near, 3)
        glider = model_moved(GLIDER, (FAR - 20, -20))
        self.assertEqual(first_touch(LIFE, near, glider, 60), first_touch(LIFE, BLOCK, model_moved(GLIDER, (-20, -20)), 60))

    def test_loud(self):
        for told in LOUD_RULES:
            for one, other in (([], []), (BLOCK, BLOCK), (BLOCK, [])):
                for most in (0, 1, 60):
                    self.refuses(Loud, first_touch, told, one, other, most)


class MeetsTest(Case):

    def holds(self, told, one, other):
        """What is told is what the turns show, and a paper is borne out; the word is told on."""
        answer = meets(told, one, other)
        if answer[0] == "meet":
            self.assertEqual(answer, ("meet", model_first(told, one, other, answer[1])), (told, one, other))
            self.assertIs(type(answer[1]), int)
            return "meet"
        word, turn, way = answer
        self.assertEqual(word, "apart")
        self.assertLessEqual(turn, 4000)
        self.assertTrue(model_paper(told, one, other, turn, way), (told, one, other, answer))
        self.assertIs(holds_apart(told, one, other, turn, way), True)
        many = common(model_thing(told, one), model_thing(told, other))[0]
        self.assertIsNone(model_first(told, one, other, turn + 3 * many), (told, one, other))
        return "apart"

    def test_the_things_are_such(self):
        rounds = set()
        for told, things in WORLDS:
            for cells in things:
                rows, move = model_thing(told, cells)
                rounds.add(len(rows))
                self.holds(told, cells, cells)
        self.assertEqual(rounds, {1, 2, 3, 4, 5, 6})

    def test_by_hand(self):
        self.tells(("meet", 0), meets, LIFE, BLOCK, BLOCK)
        self.tells(("meet", 0), meets, LIFE, BLOCK, model_moved(BLOCK, (3, 3)))
        self.tells(("meet", 1), meets, LIFE, BLINKER, model_moved(BLINKER, (0, 4)))
        self.tells(("meet", 24), meets, LIFE, GLIDER, model_moved(BLOCK, (10, 10)))
        self.assertEqual(self.holds(LIFE, GLIDER, model_moved(BLOCK, (-6, -6))), "apart")
        self.assertEqual(self.holds(LIFE, BLOCK, model_moved(BLOCK, (4, 0))), "apart")
        self.assertEqual(self.holds(LIFE, GLIDER, model_moved(GLIDER, (6, 0))), "apart")

    def test_all_pairs(self):
        words = [self.holds(told, one, other) for told, one, other in pairs()]
        self.assertGreater(words.count("apart"), 100)
        self.assertGreater(words.count("meet"), 100)

    def test_the_other_way_about(self):
        for told, one, other in pairs(7):
            answer, back = meets(told, one, other), meets(told, other, one)
            self.assertEqual(answer[0], back[0])
            self.assertEqual(self.holds(told, other, one), back[0])
            if answer[0] == "meet":
                self.assertEqual(answer, back)

    def test_as_first_touch(self):
        for told, one, other in pairs(11):
            answer = meets(told, one, other)
            wanted = first_touch(told, one, other, 60)
            if wanted is not None or answer[0] == "meet" and answer[1] <= 60:
                self.assertEqual(answer, ("meet", wanted))

    def test_late_meetings(self):
        told, things = WORLDS[2]
        slow = things[1]
        late = [meets(told, model_moved(slow, (16, 0)), model_moved(things[0], (0, down))) for down in (-1, 0, 1)]
        self.assertTrue(all(answer[0] == "meet" and answer[1] > 50 for answer in late), late)
        for down in (-1, 0, 1):
            self.holds(told, model_moved(slow, (16, 0)), model_moved(things[0], (0, down)))

    def test_far_from_nought(self):
        for told, one, other in pairs(13):
            for move in ((FAR, -FAR), (10 ** 59, 10 ** 59)):
                far_one, far_other = model_moved(one, move), model_moved(other, move)
                self.assertEqual(self.holds(told, far_one, far_other), meets(told, one, other)[0])

    def test_turned_alike(self):
        for told, one, other in pairs(17):
            for turning in MODEL_TURNINGS[told[0]]:
                answer = meets(told, model_turned(one, turning), model_turned(other, turning))
                self.assertEqual(answer[0], meets(told, one, other)[0])
                if answer[0] == "meet":
                    self.assertEqual(answer, meets(told, one, other))

    def test_asked_with_care(self):
        for told, one, other in pairs(29):
            answer = self.told(meets, told, one, other)
            if answer[0] == "apart":
                self.tells(True, holds_apart, told, one, other, *answer[1:])


class HoldsApartTest(Case):

    def same(self, told, one, other, turn, way):
        answer = holds_apart(told, one, other, turn, way)
        self.assertIs(answer, model_paper(told, one, other, turn, way), (told, one, other, turn, way))
        return answer

    def test_by_hand(self):
        far = model_moved(BLOCK, (4, 0))
        for turn in (1, 2, 7, 4000):
            self.tells(True, holds_apart, LIFE, BLOCK, far, turn, None)
        for turn in (0, -1, -4000):
            self.tells(False, holds_apart, LIFE, BLOCK, far, turn, None)
        # Between the blocks are two columns, so along (-1, 0) the gap is three.
        for turn in (0, 1, 4000):
            self.tells(True, holds_apart, LIFE, BLOCK, far, turn, (-1, 0))
            self.tells(True, holds_apart, LIFE, far, BLOCK, turn, (1, 0))
            self.tells(True, holds_apart, LIFE, BLOCK, far, turn, (-FAR, 0))
            for way in ((1, 0), (0, 1), (0, -1), (0, 0), (-1, 1), (-1, -1), (FAR, 1)):
                self.tells(False, holds_apart, LIFE, BLOCK, far, turn, way)
        for turn in (-1, -2, -4000):
            self.tells(False, holds_apart, LIFE, BLOCK, far, turn, (-1, 0))
        # One column nearer they touch.
        for way in (None, (-1, 0), (-1, -1), (0, 0)):
            for turn in (0, 1, 4000):
                self.tells(False, holds_apart, LIFE, BLOCK, model_moved(BLOCK, (3, 0)), turn, way)

    def test_the_gap_is_more_than_two_offsets(self):
        keep = (4, (), (0,))
        for kind, way, place in itertools.product(KINDS, ((1, 0), (1, 1), (2, -1), (-3, 4)),
                                                  ((-3, 0), (-2, -2), (-3, 2), (4, -6), (-4, 0), (0, 3))):
            told = (kind,) + keep[1:]
            for turn in (0, 1, 3):
                self.same(told, [(0, 0)], [place], turn, way)

    def test_none_only_without_drift(self):
        behind = model_moved(BLOCK, (-6, -6))
        for turn in (0, 1, 4, 100, 4000):
            self.tells(False, holds_apart, LIFE, GLIDER, behind, turn, None)
        for turn in (0, 4, 100, 4000):
            self.tells(True, holds_apart, LIFE, GLIDER, behind, turn, (1, 1))
        along = model_moved(GLIDER, (6, 0))
        for turn, wanted in ((0, False), (3, False), (4, True), (5, True), (4000, True)):
            self.tells(wanted, holds_apart, LIFE, GLIDER, along, turn, None)

    def test_ways_along_which_something_is_lost(self):
        # The glider goes away along (1, 1), so along (-1, -1) it comes nearer, however large the gap is now.
        ahead = model_moved(BLOCK, (12, 12))
        self.tells(False, holds_apart, LIFE, GLIDER, ahead, 0, (-1, -1))
        self.tells(False, holds_apart, LIFE, GLIDER, ahead, 0, (-1, 0))
        self.tells(True, holds_apart, LIFE, GLIDER, model_moved(BLOCK, (12, -8)), 0, (-1, 1))
        self.tells(False, holds_apart, LIFE, GLIDER, model_moved(BLOCK, (12, -8)), 0, (-1, 0))
        self.tells(True, holds_apart, LIFE, GLIDER, model_moved(BLOCK, (12, -8)), 0, (0, 1))

    def test_touched_before(self):
        # The glider begins beside the block and then goes away: from later on a way shows it, but they have touched.
        beside = model_moved(BLOCK, (-2, -2))
        self.assertEqual(meets(LIFE, GLIDER, beside)[0], "meet")
        for turn in (0, 4, 40, 400, 4000):
            self.assertFalse(self.same(LIFE, GLIDER, beside, turn, (1, 1)))
        told, things = WORLDS[2]
        self.same(told, things[1], model_moved(things[0], (-8, 0)), 200, (-1, 0))

    def test_papers_bent_once(self):
        held = []
        for told, one, other in pairs(8):
            answer = meets(told, one, other)
            if answer[0] == "meet":
                turn, way = answer[1] + 1, (1, 0)
            else:
                word, turn, way = answer
            bent = [(turn, way), (turn - 1, way), (turn + 1, way), (0, way), (-1, way), (-turn - 7, way),
                    (turn + 33, way), (turn, None), (0, None), (turn, (0, 0)), (2 * turn + 5, (0, 0))]
            bent += [(turn, wanted) for wanted in ((1, 0), (-1, 0), (0, 1), (0, -1), (1, 1), (-1, 2), (FAR, -FAR))]
            for turn, way in bent:
                held.append(self.same(told, one, other, turn, way))
        self.assertEqual(set(held), {True, False})

    def test_late_turns(self):
        held = []
        for told, one, other in pairs(101):
            for turn in (3999, 4000):
                for way in (None, (1, 0), (0, -1), (-1, -1), (3, 2)):
                    held.append(self.same(told, one, other, turn, way))
        self.assertEqual(set(held), {True, False})

    def test_turns_of_rounds_that_do_not_go_into_each_other(self):
        told, things = WORLDS[1]
        one, other = things[4], model_moved(things[3], (9, 9))
        many, drift = common(model_thing(told, one), model_thing(told, other))
        self.assertEqual((many, drift), (20, (0, 0)))
        for turn in range(41):
            self.assertIs(self.same(told, one, other, turn, None), turn >= 20)

    def test_what_is_told_holds_on(self):
        for told, one, other in pairs(19):
            answer = meets(told, one, other)
            if answer[0] == "apart":
                for later in (1, 5, 100, 4000 - answer[1]):
                    self.assertIs(holds_apart(told, one, other, answer[1] + later, answer[2]), True)


class RefusalsTest(Case):

    def test_loud_ahead_of_all(self):
        for told in LOUD_RULES:
            for one, other in ((BLOCK, BLOCK), ([], []), ([], BLOCK), (GLIDER, [(0, 0)])):
                self.refuses(Loud, meets, told, one, other)
                for turn, way in ((0, None), (-1, (1, 0)), (4, (0, 0))):
                    self.refuses(Loud, holds_apart, told, one, other, turn, way)

    def test_no_thing_of_the_one_and_of_the_other(self):
        for cells in NO_THINGS:
            self.assertIsNone(model_thing(LIFE, cells))
            for other in (BLOCK, GLIDER, cells):
                for handed in ((cells, other), (other, cells)):
                    self.refuses(NoThing, meets, LIFE, *handed)
                    for turn, way in ((0, None), (-1, None), (5, (1, 0)), (-7, (0, 0))):
                        self.refuses(NoThing, holds_apart, LIFE, *handed, turn, way)

    def test_what_comes_again_later_than_at_once_is_no_thing(self):
        # An L of three cells becomes a block, which rests.
        for cells in ([(0, 0), (0, 1), (1, 0)], [(0, 0), (1, 0), (1, 1), (2, 1)]):
            self.refuses(NoThing, meets, LIFE, cells, model_moved(BLOCK, (8, 8)))
            self.refuses(NoThing, meets, LIFE, model_moved(BLOCK, (8, 8)), cells)

    def test_longer_rounds_than_six(self):
        for told, cells, span in (((8, (2, 4, 5), (0, 3, 4, 7)), [(0, 0), (0, 2), (2, 0), (2, 2)], 7),
                                  ((8, (4, 5), (0, 1, 2, 3)), [(0, 0), (0, 2), (1, 1), (1, 2), (2, 1)], 8)):
            self.assertEqual(model_turns(told, cells, span)[-1], cells)
            for other in (cells, model_moved(cells, (12, 0))):
                self.refuses(NoThing, meets, told, cells, other)
                self.refuses(NoThing, holds_apart, told, cells, other, span, None)

    def test_all_small_pictures(self):
        for told in (LIFE, (4, (2, 3), (0, 1, 3)), (6, (2, 4, 5), (2, 4, 5)), (8, (3, 4, 5, 8), (0, 3))):
            for cells in boxed(3, 3)[::7]:
                if model_thing(told, cells) is None:
                    self.refuses(NoThing, meets, told, cells, cells)
                    self.refuses(NoThing, holds_apart, told, cells, cells, 3, None)
                else:
                    self.assertEqual(meets(told, cells, cells), ("meet", 0))


if __name__ == "__main__":
    unittest.main()
