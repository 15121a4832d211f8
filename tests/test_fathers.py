"""Fathers, and papers that there is none (points 2, 31 and 32)."""

import fractions
import itertools
import unittest

from cellships.errors import NoSize, Outside
from cellships.fathers import father, holds_father, holds_none
from cellships.planes import next_turn
from tests.helper import (BLINKER, BLOCK, FAR, GLIDER, KINDS, LIFE, MODEL_OFFSETS, MOST, ODD_THINGS, Case, boxed,
                          kinds, model_count, model_moved)

SIZES = tuple((wide, high) for wide in (1, 2, 3) for high in range(1, 7) if wide * high <= 9)
RULES = (
    LIFE, (8, (3,), ()), (8, (8,), ()), (8, (), (8,)), (8, (0, 3), (2, 3)), (8, (1, 3, 5, 7), (1, 3, 5, 7)),
    (6, (2,), (3, 4)), (6, (6,), (0,)), (6, (0, 6), ()), (4, (4,), ()), (4, (), (4,)), (4, (0,), (4,)),
    (4, (2, 3), (1, 2, 4)), (8, (), ()), (6, tuple(range(7)), tuple(range(7))),
)
# By these many pictures have no father.
FEW = ((8, (8,), ()), (8, (), (8,)), (6, (6,), (0,)), (4, (4,), ()), (4, (), (4,)), (8, (), ()), (8, (), (0,)),
       (4, (0,), ()), (8, (0,), (8,)), (6, (5,), ()))

# Of anything that is no size of a box for fathers.
NO_FATHER_SIZES = ODD_THINGS + (
    0, 1, 3, 9, (), (3,), (1, 1, 1), (3, 3, 1), [3, 3], [1, 1], [], (0, 0), (0, 1), (1, 0), (-1, 1), (1, -1), (-3, -3),
    (4, 1), (4, 2), (1, 7), (1, 9), (9, 1), (3, 4), (2, 5), (2, 6), (3, 6), (4, 4), (FAR, 1), (1, FAR), (-FAR, -FAR),
    (MOST, 0), (0, MOST), (True, 1), (1, True), (True, True), (False, 3), (3, False), ("3", 3), (3, "3"), "33",
    b"\x03\x03", (None, 3), (3, None), (None, None), ([3], 3), (3, [3]), ((3, 3),), ((3, 3), 1), (1, (1, 1)),
    {1: 1, 2: 2}, {1, 2}, (1, {}), (set(), 1), (fractions.Fraction(3), 3), (3, fractions.Fraction(3)))


def rim_cells(size):
    """The cells of a box and of its rim."""
    return [(x, y) for x in range(-1, size[0] + 1) for y in range(-1, size[1] + 1)]


def model_shows(told, size, other):
    """What lives in the box at the next turn of a picture."""
    kind, born, stay = told
    cells = [(x, y) for x in range(size[0]) for y in range(size[1])]
    return [cell for cell in cells if model_count(kind, other, cell) in (stay if cell in other else born)]


def model_is_father(told, size, cells, other):
    return set(other) <= set(rim_cells(size)) and model_shows(told, size, other) == cells


def model_children(told, size):
    """All pictures of a box that have a father, by going through all pictures of the box and its rim."""
    kind, born, stay = told
    places = {cell: 1 << at for at, cell in enumerate(rim_cells(size))}
    asked = [(places[x, y], sum(places[x + dx, y + dy] for dx, dy in MODEL_OFFSETS[kind]))
             for x in range(size[0]) for y in range(size[1])]
    found = set()
    for bits in range(1 << len(places)):
        found.add(tuple((bits & near).bit_count() in (stay if bits & own else born) for own, near in asked))
    cells = [(x, y) for x in range(size[0]) for y in range(size[1])]
    return [[cell for cell, lives in zip(cells, row) if lives] for row in found]


# What is reckoned once is kept, as it is asked for with each bent paper again.
BECOMES = {}


def model_becomes(told, wide):
    """For each three rows of wide + 2 columns what the middle one becomes in the box, as a row."""
    if (told, wide) not in BECOMES:
        kind, born, stay = told
        rows = {}
        for one, two, three in itertools.product(range(2 ** (wide + 2)), repeat=3):
            row = 0
            for x in range(wide):
                count = sum((one, two, three)[1 + dy] >> (x + 1 + dx) & 1 for dx, dy in MODEL_OFFSETS[kind])
                row += (count in (stay if two >> (x + 1) & 1 else born)) << x
            rows.setdefault((one, two, row), []).append(three)
        BECOMES[told, wide] = rows
    return BECOMES[told, wide]


def model_holds_none(told, size, cells, lists):
    wide, high = size
    if len(lists) != high or len(lists[-1]) != 0:
        return False
    rows = model_becomes(told, wide)
    ahead = list(itertools.product(range(2 ** (wide + 2)), repeat=2))
    for y in range(high):
        wanted = sum(2 ** x for x in range(wide) if (x, y) in cells)
        for one, two in ahead:
            if any((two, three) not in lists[y] for three in rows.get((one, two, wanted), [])):
                return False
        ahead = lists[y]
    return True


def bent_once(lists, wide):
    """Papers bent once."""
    many = 2 ** (wide + 2)
    for at, pairs in enumerate(lists):
        def with_list(other):
            return lists[:at] + [other] + lists[at + 1:]
        for place in sorted({0, 1, len(pairs) // 2, len(pairs) - 1} & set(range(len(pairs)))):
            yield with_list(pairs[:place] + pairs[place + 1:])
            yield with_list(pairs[:place] + [pairs[place]] + pairs[place:])
            yield with_list(pairs[:place] + [pairs[place][::-1]] + pairs[place + 1:])
        yield with_list(pairs[::-1])
        yield with_list([])
        for pair in ((0, 0), (many - 1, many - 1), (1, many // 2), (-1, 0), (0, -1), (many, 0), (0, many), (FAR, 0),
                     (0, -FAR), (FAR, FAR), (-many, 2 * many), (many + 1, 1), (-1, -1)):
            yield with_list(pairs + [pair])
            yield with_list([pair] + pairs)
            yield with_list([pair])
        yield lists[:at] + lists[at + 1:]
        yield lists[:at] + [pairs] + lists[at:]
    for other in (lists[::-1], lists[1:] + lists[:1], [[] for pairs in lists], lists + [[]], [[]] + lists,
                  lists + [[(0, 0)]], [], [[]]):
        yield other


def no_father_papers(sizes):
    """Rules, sizes and pictures without a father, with the told paper of each."""
    for told in FEW:
        for size in sizes:
            for cells in boxed(*size)[::3]:
                word, paper = father(told, size, cells)
                if word == "none":
                    yield told, size, cells, paper


class HoldsFatherTest(Case):

    def test_by_hand(self):
        line = [(-1, 0), (0, 0), (1, 0)]
        self.tells(True, holds_father, LIFE, (1, 1), [(0, 0)], line)
        self.tells(False, holds_father, LIFE, (1, 1), [], line)
        self.tells(True, holds_father, LIFE, (1, 1), [], [])
        self.tells(False, holds_father, LIFE, (1, 1), [(0, 0)], [])
        self.tells(True, holds_father, LIFE, (3, 3), [(1, 0), (1, 1), (1, 2)], BLINKER)
        self.tells(True, holds_father, LIFE, (3, 3), BLINKER, [(1, 0), (1, 1), (1, 2)])
        self.tells(True, holds_father, LIFE, (2, 2), BLOCK, BLOCK)
        self.tells(True, holds_father, LIFE, (2, 2), BLOCK, BLOCK[1:])
        self.tells(True, holds_father, (4, (0,), ()), (1, 1), [(0, 0)], [])

    def test_what_lives_outside_of_the_box_next_is_not_looked_at(self):
        for high, wanted in ((1, [(0, 0)]), (2, [(0, 0), (0, 1)]), (3, [(0, 0), (0, 1)])):
            self.tells(True, holds_father, LIFE, (1, high), wanted, [(-1, 0), (0, 0), (1, 0)])
            self.tells(False, holds_father, LIFE, (1, high), [], [(-1, 0), (0, 0), (1, 0)])
        self.tells(True, holds_father, (8, (1,), ()), (1, 1), [], [(0, 0)])
        self.tells(True, holds_father, (8, (0,), ()), (1, 1), [], [(0, 0)])
        self.tells(True, holds_father, (4, (0, 1), (0,)), (2, 1), [(0, 0), (1, 0)], [(-1, -1), (2, 1)])

    def test_cells_of_the_rim_and_beyond(self):
        for told in ((8, (1,), (0,)), (8, (0, 1), (0,)), (4, (), (0,)), (6, (3,), ())):
            for size in SIZES:
                wide, high = size
                inside = set(rim_cells(size))
                cells = [(x, y) for x in range(-3, wide + 3) for y in range(-3, high + 3)]
                cells += [(FAR, 0), (0, -FAR), (-MOST, MOST), (-2, high), (wide + 1, -1)]
                for cell in cells:
                    shown = model_shows(told, size, [cell])
                    self.assertIs(holds_father(told, size, shown, [cell]), cell in inside, (told, size, cell))

    def test_one_cell_too_far_spoils_a_father(self):
        for far in ((-2, 0), (0, -2), (4, 1), (1, 4), (FAR, 0), (-MOST, -MOST)):
            for cells in (BLINKER, [(1, 0), (1, 1), (1, 2)]):
                shown = model_shows(LIFE, (3, 3), cells)
                self.tells(True, holds_father, LIFE, (3, 3), shown, cells)
                other = sorted(cells + [far])
                self.tells(False, holds_father, LIFE, (3, 3), model_shows(LIFE, (3, 3), other), other)

    def test_all_pictures_of_the_smallest_box(self):
        for told in RULES:
            for other in boxed(3, 3):
                other = model_moved(other, (-1, -1))
                for cells in ([], [(0, 0)]):
                    wanted = model_is_father(told, (1, 1), cells, other)
                    self.assertIs(holds_father(told, (1, 1), cells, other), wanted)

    def test_as_the_model(self):
        for told in RULES:
            for size in SIZES:
                around = rim_cells(size)
                for step in range(1, 12):
                    other = [cell for at, cell in enumerate(around) if at * at * step % 11 < 5]
                    shown = model_shows(told, size, other)
                    self.tells(True, holds_father, told, size, shown, other)
                    for cell in around:
                        if cell not in boxed(*size)[-1]:
                            continue
                        bent = sorted(set(shown) ^ {cell})
                        self.assertIs(holds_father(told, size, bent, other), False)

    def test_refusals(self):
        for function, last in ((holds_father, []), (holds_father, GLIDER), (holds_father, [(FAR, FAR)]),
                               (holds_none, []), (holds_none, [[], [], []])):
            self.refusals_of(lambda *handed: function(*handed, last))

    def refusals_of(self, asked):
        for told in (LIFE, (4, (0,), ())):
            for size in NO_FATHER_SIZES:
                for cells in ([], [(0, 0)], [(-1, 0)], [(FAR, FAR)]):
                    self.refuses(NoSize, asked, told, size, cells)
            for size in SIZES:
                wide, high = size
                for cell in ((-1, 0), (0, -1), (wide, 0), (0, high), (-1, -1), (wide, high), (-2, 0), (FAR, 0),
                             (0, -FAR), (MOST, MOST)):
                    self.refuses(Outside, asked, told, size, [cell])
                    self.refuses(Outside, asked, told, size, sorted([(0, 0), cell]))

    def test_refusals_of_father(self):
        self.refusals_of(father)

    def test_all_sizes(self):
        for wide in range(-1, 6):
            for high in range(-1, 11):
                if (wide, high) in SIZES:
                    self.assertEqual(father((8, (), ()), (wide, high), [])[0], "father")
                else:
                    self.refuses(NoSize, father, LIFE, (wide, high), [])


class FatherTest(Case):

    def holds(self, told, size, cells):
        """What is told is borne out, by the checker and by the model of it; its word is told on."""
        answer = father(told, size, cells)
        self.assertEqual(kinds(answer)[0], "tuple")
        word, paper = answer
        if word == "father":
            self.assertEqual(paper, sorted(set(paper)))
            self.assertTrue(model_is_father(told, size, cells, paper), (told, size, cells))
            self.assertIs(holds_father(told, size, cells, paper), True)
            return word
        self.assertEqual(word, "none")
        self.assertTrue(model_holds_none(told, size, cells, paper), (told, size, cells))
        self.assertIs(holds_none(told, size, cells, paper), True)
        self.assertEqual(set(kinds(paper)[1][0][1][0][1]) if paper[0] else {"int"}, {"int"})
        return word

    def test_by_hand(self):
        self.tells(("none", [[]]), father, (8, (), ()), (1, 1), [(0, 0)])
        self.tells(("father", [(x, y) for x in (-1, 0, 1) for y in (-1, 0, 1) if (x, y) != (0, 0)]),
                   father, (8, (8,), ()), (1, 1), [(0, 0)])
        self.assertEqual(self.holds((8, (8,), ()), (2, 1), [(0, 0), (1, 0)]), "none")
        self.assertEqual(self.holds((8, (8,), ()), (2, 1), [(1, 0)]), "father")
        self.assertEqual(self.holds((8, (8,), ()), (3, 3), [(0, 0), (0, 2), (2, 0), (2, 2)]), "father")
        self.assertEqual(self.holds((4, (0,), ()), (1, 2), [(0, 0), (0, 1)]), "father")
        self.assertEqual(self.holds((4, (0,), (0, 1, 2, 3, 4)), (1, 1), []), "father")
        self.assertEqual(self.holds((4, (0, 1, 2, 3, 4), (0, 1, 2, 3, 4)), (1, 1), []), "none")

    def test_against_all_pictures_of_the_box_and_its_rim(self):
        for told in RULES:
            for size in ((1, 1), (1, 2), (2, 1)):
                found = model_children(told, size)
                for cells in boxed(*size):
                    self.assertEqual(self.holds(told, size, cells), "father" if cells in found else "none")

    def test_against_all_pictures_of_larger_boxes(self):
        for told, size in ((LIFE, (2, 2)), ((8, (8,), ()), (2, 2)), ((6, (6,), (0,)), (1, 3)), ((4, (4,), ()), (3, 1)),
                           ((4, (0,), (4,)), (2, 2)), ((8, (0, 3), (2, 3)), (1, 3))):
            found = model_children(told, size)
            for cells in boxed(*size):
                self.assertEqual(self.holds(told, size, cells), "father" if cells in found else "none")

    def test_all_sizes(self):
        words = []
        for told in RULES:
            for size in SIZES:
                pictures = boxed(*size)
                for cells in pictures[1::len(pictures) // 2 + 1] + pictures[-1:]:
                    words.append(self.holds(told, size, cells))
        self.assertEqual(set(words), {"father", "none"})

    def test_rules_of_few_counts(self):
        words = []
        for told in FEW:
            for size in SIZES:
                words.append(self.holds(told, size, boxed(*size)[-1]))
                words.append(self.holds(told, size, [(0, 0)]))
                words.append(self.holds(told, size, []))
        self.assertGreater(words.count("none"), 50)
        self.assertGreater(words.count("father"), 50)

    def test_whatever_has_a_father_is_told_one(self):
        for told in RULES:
            for size in SIZES:
                around = rim_cells(size)
                for step in (1, 7):
                    other = [cell for at, cell in enumerate(around) if at * at * step % 13 < 6]
                    self.assertEqual(self.holds(told, size, model_shows(told, size, other)), "father")

    def test_a_father_of_the_plane_becomes_the_picture(self):
        for told in (LIFE, (6, (2,), (3, 4)), (4, (2, 3), (1, 2, 4))):
            for cells in boxed(2, 3):
                word, other = father(told, (2, 3), cells)
                if word == "father":
                    turn = next_turn(told, other)
                    self.assertEqual([cell for cell in turn if 0 <= cell[0] < 2 and 0 <= cell[1] < 3], cells)

    def test_each_told_list_is_a_new_one(self):
        for told in RULES:
            for size in ((1, 1), (2, 2), (1, 6)):
                for cells in ([], [(0, 0)], boxed(*size)[-1]):
                    self.told(father, told, size, cells)
        answer = self.told(father, (8, (8,), ()), (3, 3), [(1, 0), (1, 1)])
        self.assertEqual((answer[0], [len(pairs) > 0 for pairs in answer[1]]), ("none", [True, False, False]))


class HoldsNoneTest(Case):

    def test_by_hand(self):
        dies = (8, (), ())
        self.tells(True, holds_none, dies, (1, 1), [(0, 0)], [[]])
        self.tells(False, holds_none, dies, (1, 1), [], [[]])
        self.tells(False, holds_none, dies, (1, 1), [(0, 0)], [])
        self.tells(False, holds_none, dies, (1, 1), [(0, 0)], [[], []])
        self.tells(False, holds_none, dies, (1, 1), [(0, 0)], [[(0, 0)]])
        self.tells(False, holds_none, dies, (1, 1), [(0, 0)], [[(-1, FAR)]])
        # Whatever the rows are, row 0 becomes that of a picture without cells; row 1 never becomes what it must.
        every = [(one, two) for one in range(8) for two in range(8)]
        self.tells(True, holds_none, dies, (1, 2), [(0, 1)], [every, []])
        self.tells(True, holds_none, dies, (1, 2), [(0, 1)], [every[::-1], []])
        self.tells(True, holds_none, dies, (1, 2), [(0, 1)], [every + every + [(8, 0), (-1, 3)], []])
        self.tells(False, holds_none, dies, (1, 2), [(0, 1)], [[], every])
        self.tells(True, holds_none, dies, (1, 2), [(0, 0)], [[], []])
        for at in range(64):
            self.tells(False, holds_none, dies, (1, 2), [(0, 1)], [every[:at] + every[at + 1:], []])

    def test_what_is_told(self):
        for told, size, cells, paper in no_father_papers(((1, 1), (2, 1), (1, 3), (2, 2))):
            self.tells(True, holds_none, told, size, cells, paper)

    def test_bent_papers(self):
        held = []
        for told, size, cells, paper in no_father_papers(((1, 1), (1, 2), (2, 1), (1, 3))):
            for other in bent_once(paper, size[0]):
                answer = holds_none(told, size, cells, other)
                self.assertIs(answer, model_holds_none(told, size, cells, other), (told, size, cells, other))
                held.append(answer)
        self.assertEqual(set(held), {True, False})

    def test_bent_papers_of_larger_boxes(self):
        for told, size, cells in (((8, (8,), ()), (3, 3), [(1, 0), (1, 1)]), ((4, (4,), ()), (2, 3), [(0, 1), (0, 2)]),
                                  ((6, (6,), ()), (3, 2), [(0, 0), (1, 1)]), ((8, (8,), ()), (1, 6), [(0, 4), (0, 5)])):
            word, paper = father(told, size, cells)
            self.assertEqual(word, "none")
            held = []
            for other in bent_once(paper, size[0]):
                answer = holds_none(told, size, cells, other)
                self.assertIs(answer, model_holds_none(told, size, cells, other), (told, size, cells, other))
                held.append(answer)
            self.assertEqual(set(held), {True, False})

    def test_whatever_the_lists_where_it_has_a_father_it_is_not_borne_out(self):
        every = [(one, two) for one in range(16) for two in range(16)]
        for told in (LIFE, (8, (8,), ()), (4, (0,), (4,))):
            for cells in boxed(2, 2):
                if father(told, (2, 2), cells)[0] == "father":
                    for lists in ([every, []], [every[::2], []], [[], []], [every, every], [[(FAR, 0)], []]):
                        self.assertIs(holds_none(told, (2, 2), cells, lists), False)

    def test_more_than_it_must_have(self):
        told, size, cells = (8, (8,), ()), (2, 2), [(0, 0), (0, 1), (1, 0), (1, 1)]
        self.tells(True, holds_none, told, size, cells, [[], []])
        held = [pair for pair in itertools.product(range(16), repeat=2)
                if holds_none(told, size, cells, [[pair], []])]
        wanted = [pair for pair in itertools.product(range(16), repeat=2)
                  if model_holds_none(told, size, cells, [[pair], []])]
        self.assertEqual(held, wanted)
        for kind in KINDS:
            for pair in ((-1, 0), (0, -1), (16, 0), (0, 16), (FAR, 15), (15, -FAR), (MOST // FAR, FAR)):
                self.tells(True, holds_none, (kind, (kind,), ()), size, cells, [[pair], []])


if __name__ == "__main__":
    unittest.main()
