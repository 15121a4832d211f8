"""Fates on the plane, their papers and their words, and glides (points 2, 3 and 12 to 15)."""

import unittest

from cellships.errors import Loud
from cellships.fates import bears_out, fate, glide, turns, word_of
from tests.helper import (BLINKER, BLOCK, FAR, GLIDER, KINDS, LIFE, Case, boxed, model_after, model_move, model_moved,
                          model_next, model_turned, model_turnings, model_turns)

CORNER = [(0, 0), (0, 1), (1, 0)]
CLIMBER = [(0, 1), (0, 2), (1, 0), (1, 1), (2, 1)]
FLYER = [(0, 0), (0, 3), (1, 1), (1, 2)]
FLYER_RULE = (8, (2, 4, 5), (8,))
SIX_GOER = [(0, 0), (0, 1), (1, 2), (1, 3), (2, 2), (2, 4)]
SIX_GOER_RULE = (6, (2, 4, 5, 6), (2, 4, 5, 6))

RULES = (
    (4, (2, 3), (1, 2, 4)), (4, (2,), (1, 2, 4)), (4, (1,), (0, 1)), (4, (), ()), (4, (1, 3), (0, 2, 4)),
    (6, (2, 3, 5, 6), (3,)), (6, (2, 4, 6), (0, 1, 2, 4)), (6, (3, 4), (2, 4)), SIX_GOER_RULE, (6, (1,), ()),
    LIFE, FLYER_RULE, (8, (2, 8), (2, 3, 5, 6, 8)), (8, (3, 4, 6, 7, 8), (0, 2, 7)), (8, (), tuple(range(9))),
)
PICTURES = [[], [(0, 0)], [(-4, 7)], BLOCK, BLINKER, GLIDER, CORNER, FLYER, SIX_GOER]
LOUD_RULES = tuple((kind, born, stay) for kind in KINDS for born in ((0,), (0, 2, 3)) for stay in ((), (0, 2)))

# Pictures by their rules, with their fates.
FATES = (
    (LIFE, [], ("gone", 0)), (LIFE, [(0, 0)], ("gone", 1)), (LIFE, [(0, 0), (1, 1), (2, 2), (3, 3)], ("gone", 2)),
    ((4, (), ()), BLOCK, ("gone", 1)),
    (LIFE, BLOCK, ("comes", 0, 1, (0, 0))), (LIFE, CORNER, ("comes", 1, 1, (0, 0))),
    ((6, (), (0,)), [(5, -5)], ("comes", 0, 1, (0, 0))),
    (LIFE, BLINKER, ("comes", 0, 2, (0, 0))),
    ((4, (2, 3), (1, 2, 4)), [(0, 0), (1, 1)], ("comes", 0, 2, (0, 0))),
    ((4, (2, 3), (1, 2, 4)), [(0, 0), (1, 0), (2, 1)], ("comes", 3, 2, (0, 0))),
    ((4, (2, 3, 4), (1, 2, 4)), [(0, 0), (0, 1), (1, 2), (2, 0), (2, 1)], ("comes", 1, 6, (0, 0))),
    ((6, (2, 3, 5, 6), (3,)), [(0, 0), (0, 1), (1, 0), (2, 1)], ("comes", 0, 4, (0, 0))),
    ((8, (2, 4, 5, 6, 7, 8), (2, 5, 7)), [(0, 0), (2, 0)], ("comes", 6, 2, (0, 0))),
    (LIFE, GLIDER, ("comes", 0, 4, (1, 1))), (FLYER_RULE, FLYER, ("comes", 0, 1, (1, 0))),
    (SIX_GOER_RULE, SIX_GOER, ("comes", 0, 3, (-1, 0))),
    ((8, (2, 4), (5, 6)), [(0, 0), (0, 1), (0, 2), (0, 3), (1, 2)], ("comes", 2, 1, (1, 0))),
    ((8, (3, 6), (2, 3)), [(0, 0), (0, 2), (1, 0), (2, 0), (2, 1)], ("comes", 1, 4, (1, -1))),
)


def last_turn(told):
    """The number of the last turn in a fate's paper."""
    return told[1] if told[0] == "gone" else told[1] + told[2]


def model_fate(rule, cells, most):
    rows = model_turns(rule, cells, most)
    for turn, now in enumerate(rows):
        if not now:
            return ("gone", turn)
        for first, earlier in enumerate(rows[:turn]):
            move = model_move(earlier, now)
            if move is not None:
                return ("comes", first, turn - first, move)
    return ("on",)


def model_bears_out(rule, rows, told):
    if told[0] != "on" and told[1] < 0 or told[0] == "comes" and told[2] < 1:
        return False
    if any(model_next(rule, one) != other for one, other in zip(rows, rows[1:])):
        return False
    last = len(rows) - 1
    empty = [at for at, row in enumerate(rows) if not row]
    if told[0] == "gone":
        return empty == [last] == [told[1]]
    pairs = [(one, other) for other in range(last + 1) for one in range(other)
             if model_move(rows[one], rows[other]) is not None]
    if told[0] == "on":
        return not empty and not pairs
    word, turn, many, move = told
    return (not empty and turn + many == last and pairs == [(turn, last)]
            and model_moved(rows[turn], move) == rows[last])


def model_glide(rule, cells, most):
    for many in range(1, most + 1):
        turn = model_after(rule, cells, many)
        for turning in sorted(model_turnings(rule[0])):
            face = model_turned(cells, turning)
            move = model_move(face, turn)
            if move is not None:
                return (many, turning, move)
    return None


def bent_rows(rows):
    """The paper bent once: a turn left out, put in or changed."""
    for at in range(len(rows) + 1):
        for other in ([], [(0, 0)], BLINKER, rows[at - 1]):
            yield rows[:at] + [other] + rows[at:]
    for at, row in enumerate(rows):
        if len(rows) > 1:
            yield rows[:at] + rows[at + 1:]
        changed = [[], [(9, 9)], row[1:], row[:-1], sorted(row + [(77, 7)]), model_moved(row, (1, 0)),
                   model_moved(row, (0, FAR))]
        for other in changed:
            if other != row:
                yield rows[:at] + [other] + rows[at + 1:]


def bent_fates(rows, told):
    """Other fates: other numbers, and others of the three forms."""
    last = len(rows) - 1
    others = [("on",), ("gone", last), ("comes", 0, last, (0, 0)), ("comes", last, 0, (0, 0))]
    others += [("gone", turn) for turn in (0, 1, last - 1, last + 1, -1, FAR, -FAR)]
    numbers = [(0, last), (last - 1, 1), (last, 0), (last, 1), (last + 1, -1), (-1, last + 1), (-1, 1), (-1, last),
               (FAR, last - FAR), (-FAR, last + FAR), (FAR, FAR), (FAR, 1), (0, FAR), (-last - 1, 2 * last + 1)]
    moves = [(0, 0), (1, 0), (0, -1), (FAR, FAR), (-FAR, 0)]
    if told[0] == "comes":
        word, turn, many, (dx, dy) = told
        numbers += [(turn, many), (turn + 1, many), (turn - 1, many), (turn, many + 1), (turn, many - 1),
                    (turn + 1, many - 1), (turn - 1, many + 1), (many, turn)]
        moves += [(dx, dy), (dx + 1, dy), (dx, dy - 1), (-dx, -dy), (dy, dx), (dx + FAR, dy)]
    others += [("comes", turn, many, move) for turn, many in numbers for move in moves]
    return [other for other in others if other != told]


class TurnsTest(Case):

    def test_by_hand(self):
        upright = [(1, 0), (1, 1), (1, 2)]
        self.tells([BLINKER], turns, LIFE, BLINKER, 0)
        self.tells([BLINKER, upright], turns, LIFE, BLINKER, 1)
        self.tells([BLINKER, upright, BLINKER, upright], turns, LIFE, BLINKER, 3)
        self.tells([[(0, 0)], [], [], []], turns, LIFE, [(0, 0)], 3)

    def test_as_the_model(self):
        for told in RULES:
            for cells in PICTURES:
                for many in (0, 1, 4):
                    self.tells(model_turns(told, cells, many), turns, told, cells, many)

    def test_sixty_turns(self):
        rows = self.told(turns, LIFE, GLIDER, 60)
        self.assertEqual(len(rows), 61)
        self.assertEqual(rows[60], model_moved(GLIDER, (15, 15)))
        self.assertEqual(rows[::4], [model_moved(GLIDER, (step, step)) for step in range(16)])

    def test_each_list_is_one_of_its_own(self):
        for told, cells in ((LIFE, []), (LIFE, BLOCK), (LIFE, BLINKER), ((4, (), (0,)), [(0, 0)])):
            rows = turns(told, cells, 60)
            self.assertEqual(len({id(row) for row in rows + [cells]}), 62)

    def test_loud(self):
        for told in LOUD_RULES:
            for cells in PICTURES:
                for many in (0, 1, 60):
                    self.refuses(Loud, turns, told, cells, many)


class FateTest(Case):

    def test_by_hand(self):
        for told, cells, wanted in FATES:
            for most in (last_turn(wanted), last_turn(wanted) + 1, 60):
                self.tells(wanted, fate, told, cells, most)

    def test_not_by_the_last_turn_looked_at(self):
        for told, cells, wanted in FATES:
            for most in range(last_turn(wanted)):
                self.tells(("on",), fate, told, cells, most)

    def test_what_goes_on(self):
        for most in (0, 1, 59, 60):
            self.tells(("on",), fate, LIFE, CLIMBER, most)
        for kind in KINDS:
            self.tells(("on",), fate, (kind, (1,), ()), [(0, 0)], 12)
            self.tells(("on",), fate, (kind, (1,), (0, 1, 2)), [(0, 0)], 9)

    def test_no_turns(self):
        for told in RULES:
            for cells in PICTURES:
                self.tells(("on",) if cells else ("gone", 0), fate, told, cells, 0)

    def test_without_cells(self):
        for told in RULES:
            for most in (0, 1, 2, 60):
                self.tells(("gone", 0), fate, told, [], most)

    def test_as_the_model(self):
        for told in RULES:
            for cells in PICTURES + boxed(2, 3)[::5]:
                for most in (1, 2, 5):
                    self.tells(model_fate(told, cells, most), fate, told, cells, most)

    def test_many_pictures_as_the_model(self):
        for told in RULES:
            for cells in boxed(3, 2) + boxed(3, 3)[50::37]:
                self.assertEqual(fate(told, cells, 6), model_fate(told, cells, 6), (told, cells))

    def test_turn_and_round_are_the_least(self):
        # What has come again comes again and again, and from every later turn on.
        for told, cells, wanted in FATES:
            if wanted[0] == "comes":
                word, turn, many, move = wanted
                for later in range(7):
                    start = model_after(told, cells, turn + later)
                    self.tells(("comes", 0, many, move), fate, told, start, 60)

    def test_far_pictures(self):
        for told, cells, wanted in FATES:
            for move in ((FAR, FAR), (-FAR, FAR), (0, -FAR)):
                self.tells(wanted, fate, told, model_moved(cells, move), 60)

    def test_turned_pictures(self):
        for told, cells, wanted in FATES:
            for turning in model_turnings(told[0]):
                other = model_turned(cells, turning)
                told_so = wanted
                if wanted[0] == "comes":
                    told_so = wanted[:3] + (model_turned([wanted[3]], turning)[0],)
                self.tells(told_so, fate, told, other, 12)

    def test_loud(self):
        for told in LOUD_RULES:
            for cells in PICTURES:
                for most in (0, 1, 60):
                    self.refuses(Loud, fate, told, cells, most)


class BearsOutTest(Case):

    def test_papers_of_fates(self):
        for told, cells, wanted in FATES:
            paper = turns(told, cells, last_turn(wanted))
            self.assertTrue(model_bears_out(told, paper, wanted))
            self.tells(True, bears_out, told, paper, wanted)

    def test_papers_of_what_goes_on(self):
        for told, cells, wanted in FATES:
            for most in range(last_turn(wanted)):
                self.tells(True, bears_out, told, turns(told, cells, most), ("on",))
        for most in (0, 1, 30, 60):
            self.tells(True, bears_out, LIFE, turns(LIFE, CLIMBER, most), ("on",))

    def test_what_fate_tells_is_borne_out(self):
        for told in RULES:
            for cells in PICTURES + boxed(2, 3):
                for most in (0, 3, 6):
                    wanted = fate(told, cells, most)
                    last = most if wanted == ("on",) else last_turn(wanted)
                    self.assertIs(bears_out(told, turns(told, cells, last), wanted), True)

    def test_bent_papers(self):
        for told, cells, wanted in FATES:
            paper = turns(told, cells, last_turn(wanted))
            for rows in bent_rows(paper):
                self.assertIs(bears_out(told, rows, wanted), model_bears_out(told, rows, wanted), (rows, wanted))
                # Another first picture may well have the same fate.
                if rows[0] == paper[0] or len(rows) != len(paper):
                    self.assertIs(bears_out(told, rows, wanted), False, (told, rows, wanted))

    def test_bent_papers_of_what_goes_on(self):
        answers = []
        for told, cells in ((LIFE, CLIMBER), (SIX_GOER_RULE, [(0, 0), (0, 2), (1, 1)]), ((4, (1,), ()), [(0, 0)])):
            paper = turns(told, cells, 4)
            for rows in bent_rows(paper):
                answers.append(bears_out(told, rows, ("on",)))
                self.assertIs(answers[-1], model_bears_out(told, rows, ("on",)), rows)
        # Without its first or its last turn such a paper is one, too.
        self.assertEqual(set(answers), {True, False})

    def test_bent_fates(self):
        for told, cells, wanted in FATES:
            paper = turns(told, cells, last_turn(wanted))
            for other in bent_fates(paper, wanted):
                self.assertIs(model_bears_out(told, paper, other), False)
                self.tells(False, bears_out, told, paper, other)

    def test_other_fates_of_what_goes_on(self):
        paper = turns(LIFE, CLIMBER, 5)
        for other in bent_fates(paper, ("on",)):
            self.tells(False, bears_out, LIFE, paper, other)

    def test_longer_and_shorter_papers(self):
        for told, cells, wanted in FATES:
            for last in range(last_turn(wanted) + 5):
                paper = turns(told, cells, last)
                self.tells(last == last_turn(wanted), bears_out, told, paper, wanted)
                self.tells(last < last_turn(wanted), bears_out, told, paper, ("on",))

    def test_a_later_coming_is_none(self):
        rows = turns(LIFE, BLINKER, 4)
        for told in (("comes", 0, 4, (0, 0)), ("comes", 2, 2, (0, 0)), ("comes", 1, 3, (0, 0))):
            self.tells(False, bears_out, LIFE, rows, told)
        for turn in (0, 1):
            self.tells(False, bears_out, LIFE, [BLOCK, BLOCK, BLOCK], ("comes", turn, 2 - turn, (0, 0)))
        self.tells(False, bears_out, LIFE, turns(LIFE, GLIDER, 8), ("comes", 0, 8, (2, 2)))
        self.tells(False, bears_out, LIFE, turns(LIFE, GLIDER, 5), ("comes", 1, 4, (1, 1)))
        self.tells(True, bears_out, LIFE, turns(LIFE, GLIDER, 5)[1:], ("comes", 0, 4, (1, 1)))

    def test_what_is_gone_is_gone_at_the_last_alone(self):
        self.tells(True, bears_out, LIFE, [[(0, 0)], []], ("gone", 1))
        for turn in (0, 1, 2, 3, -1, -2):
            self.tells(False, bears_out, LIFE, [[(0, 0)], [], []], ("gone", turn))
            self.tells(turn == 0, bears_out, LIFE, [[]], ("gone", turn))
            self.tells(False, bears_out, LIFE, [[], []], ("gone", turn))
            self.tells(False, bears_out, LIFE, [[(0, 0)]], ("gone", turn))
        self.tells(False, bears_out, LIFE, [[], []], ("comes", 0, 1, (0, 0)))
        self.tells(False, bears_out, LIFE, [[], []], ("on",))
        self.tells(False, bears_out, LIFE, [[(0, 0)], [], []], ("comes", 1, 1, (0, 0)))
        self.tells(False, bears_out, LIFE, [[(0, 0)], []], ("on",))

    def test_one_picture(self):
        for cells in PICTURES:
            self.tells(bool(cells), bears_out, LIFE, [cells], ("on",))
            self.tells(not cells, bears_out, LIFE, [cells], ("gone", 0))
            for turn, many in ((0, 0), (0, 1), (-1, 1), (1, -1), (FAR, -FAR), (-FAR, FAR)):
                self.tells(False, bears_out, LIFE, [cells], ("comes", turn, many, (0, 0)))

    def test_the_first_picture_is_any_one(self):
        for cells in boxed(3, 3)[::19]:
            for told in (LIFE, SIX_GOER_RULE, (4, (2,), (1, 2))):
                following = model_next(told, cells)
                for rows in ([cells], [cells, following], [cells, cells], [following, cells]):
                    for fate_told in (("on",), ("gone", 1), ("comes", 0, 1, (0, 0))):
                        wanted = model_bears_out(told, rows, fate_told)
                        self.tells(wanted, bears_out, told, rows, fate_told)

    def test_far_pictures(self):
        for told, cells, wanted in FATES:
            far = model_moved(cells, (FAR, -FAR))
            self.tells(True, bears_out, told, turns(told, far, last_turn(wanted)), wanted)

    def test_another_rule(self):
        paper = turns(LIFE, GLIDER, 4)
        self.tells(False, bears_out, (8, (3,), (2,)), paper, ("comes", 0, 4, (1, 1)))
        self.tells(False, bears_out, (6, (3,), (2, 3)), paper, ("comes", 0, 4, (1, 1)))

    def test_many_pictures_in_a_list(self):
        rows = [[(0, 0)] for row in range(2000)]
        self.tells(False, bears_out, (4, (), (0,)), rows, ("on",))
        self.tells(False, bears_out, (4, (), (0,)), rows, ("comes", 0, 1999, (0, 0)))

    def test_loud(self):
        for told in LOUD_RULES:
            for rows in ([[]], [BLOCK], [BLOCK, BLOCK], [[(0, 0)], []]):
                for fate_told in (("on",), ("gone", 0), ("gone", -1), ("comes", 0, 1, (0, 0)), ("comes", 7, 0, (1, 1))):
                    self.refuses(Loud, bears_out, told, rows, fate_told)


class WordTest(Case):

    def test_all_words(self):
        self.tells("on", word_of, ("on",))
        for turn in (0, 1, 60, FAR):
            self.tells("gone", word_of, ("gone", turn))
            self.tells("rests", word_of, ("comes", turn, 1, (0, 0)))
            for many in (2, 3, 60, FAR):
                self.tells("again", word_of, ("comes", turn, many, (0, 0)))
            for many in (1, 2, 60, FAR):
                for move in ((1, 0), (0, 1), (-1, 0), (0, -1), (1, -1), (FAR, 0), (0, -FAR), (-FAR, FAR)):
                    self.tells("goes", word_of, ("comes", turn, many, move))

    def test_words_of_pictures(self):
        for cells, word in (([(0, 0)], "gone"), (CORNER, "rests"), (BLINKER, "again"), (GLIDER, "goes"),
                            (CLIMBER, "on"), ([], "gone")):
            self.assertEqual(word_of(fate(LIFE, cells, 60)), word)


class GlideTest(Case):

    def test_by_hand(self):
        self.tells((1, (-1, 0, 0, -1), (1, 1)), glide, LIFE, BLOCK, 1)
        self.tells((1, (0, -1, -1, 0), (2, 2)), glide, LIFE, BLINKER, 60)
        self.tells((2, (0, 1, 1, 0), (0, 1)), glide, LIFE, GLIDER, 2)
        self.tells((2, (0, 1, 1, 0), (0, 1)), glide, LIFE, GLIDER, 60)
        self.tells((1, (-1, 0, 0, 1), (1, 0)), glide, (4, (2, 3), (1, 2, 4)), [(0, 0), (1, 1)], 8)
        self.tells((1, (-1, 0, 0, -1), (1, 1)), glide, (6, (2, 3, 5, 6), (3,)), [(0, 0), (0, 1), (2, 1)], 8)
        self.tells((2, (-1, 0, 0, -1), (1, 0)), glide, (6, (2, 3, 5, 6), (3,)), [(0, 0), (0, 1), (1, 0), (2, 1)], 8)
        self.tells((3, (1, -1, 0, -1), (1, 4)), glide, SIX_GOER_RULE, SIX_GOER, 60)
        self.tells((1, (1, 0, 0, -1), (1, 3)), glide, FLYER_RULE, FLYER, 1)
        self.tells((2, (-1, 0, 0, -1), (2, 2)), glide, (8, (2, 8), (2, 3, 5, 6, 8)), [(0, 0), (1, 1), (2, 0)], 8)

    def test_not_by_then(self):
        self.tells(None, glide, LIFE, GLIDER, 1)
        self.tells(None, glide, SIX_GOER_RULE, SIX_GOER, 2)
        self.tells(None, glide, LIFE, CORNER, 60)
        self.tells(None, glide, LIFE, CLIMBER, 60)
        self.tells(None, glide, LIFE, [(0, 0)], 60)
        self.tells(None, glide, (4, (1,), ()), [(0, 0)], 12)

    def test_without_cells(self):
        for told in RULES:
            for most in (1, 2, 60):
                self.tells(None, glide, told, [], most)

    def test_as_the_model(self):
        found = []
        for told in RULES:
            for cells in PICTURES + boxed(3, 2):
                wanted = model_glide(told, cells, 4)
                self.assertEqual(glide(told, cells, 4), wanted, (told, cells))
                if wanted is not None:
                    again = fate(told, cells, 12)
                    if again[0] == "comes" and again[1] == 0:
                        self.assertEqual(again[2] % wanted[0], 0)
                        found.append((told[0], again[2] > wanted[0]))
        self.assertEqual(set(found), {(kind, sooner) for kind in KINDS for sooner in (False, True)})

    def test_with_care(self):
        for told in RULES:
            for cells in PICTURES[1:]:
                self.tells(model_glide(told, cells, 3), glide, told, cells, 3)

    def test_far_pictures(self):
        for told, cells in ((LIFE, GLIDER), (SIX_GOER_RULE, SIX_GOER), (FLYER_RULE, FLYER)):
            for place in ((FAR, -FAR), (-FAR, 3)):
                far = model_moved(cells, place)
                many, turning, move = self.told(glide, told, far, 4)
                self.assertEqual((many, turning), glide(told, cells, 4)[:2])
                self.assertEqual(model_moved(model_turned(far, turning), move), model_after(told, far, many))

    def test_loud(self):
        for told in LOUD_RULES:
            for cells in PICTURES:
                for most in (1, 60):
                    self.refuses(Loud, glide, told, cells, most)


if __name__ == "__main__":
    unittest.main()
