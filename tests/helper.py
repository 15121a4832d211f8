"""What the tests share: a careful way to ask, samples, and a slow model to hold answers against."""

import copy
import fractions
import itertools
import unittest

from cellships.errors import CellError
from cellships.planes import next_turn

KINDS = (4, 6, 8)
MOST = 10 ** 60 - 1
FAR = 10 ** 39 + 7

# Things of many sorts, none of which is a whole number, a list or a tuple.
ODD_THINGS = (None, True, False, "", "4", "23", b"", b"\x03", {}, {3: 1}, set(), {3}, frozenset({3}),
              range(3), object(), len, int, fractions.Fraction(4))

MODEL_OFFSETS = {
    4: [(0, -1), (-1, 0), (1, 0), (0, 1)],
    6: [(0, -1), (-1, 0), (1, 0), (0, 1), (-1, -1), (1, 1)],
    8: [(dx, dy) for dx in (-1, 0, 1) for dy in (-1, 0, 1) if (dx, dy) != (0, 0)],
}

# Of anything that is no ring's size.
NO_RING_SIZES = ODD_THINGS + (
    0, 3, 40, (), (3,), (5, 5, 5), (40, 40, 40), [5, 5], [], [3], (2, 5), (5, 2), (41, 5), (5, 41), (2, 41),
    (0, 5), (5, 0), (-3, 5), (5, -3), (-5, -5), (1, 1), (2, 2), (41, 41), (FAR, 5), (5, FAR), (MOST, -MOST),
    (True, 5), (5, True), (False, 5), (5, False), (True, True), ("5", 5), (5, "5"), "55", "5,5", b"\x05\x05",
    (None, 5), (5, None), (None, None), ([5], 5), (5, [5]), ((5, 5),), ((5, 5), 5), (5, (5,)), {5: 5, 6: 6},
    {5, 6}, [(5, 5)], (5, {}), (set(), 5), (fractions.Fraction(5), 5), (5, fractions.Fraction(5)))

# Of anything that is no size of a box in which things are sought.
NO_BOX_SIZES = ODD_THINGS + (
    0, 1, 9, (), (3,), (9,), (1, 1, 1), (3, 3, 1), [3, 3], [1, 1], [], (0, 0), (0, 1), (1, 0), (0, 9), (-1, -1),
    (-3, -3), (-1, 5), (5, -1), (2, 5), (5, 2), (3, 4), (4, 3), (1, 10), (10, 1), (4, 4), (9, 9), (FAR, 1),
    (1, FAR), (FAR, 0), (0, -FAR), (MOST, MOST), (-MOST, -MOST), (True, 1), (1, True), (True, True), (False, 3),
    (3, False), ("3", 3), (3, "3"), "33", b"\x03\x03", (None, 3), (3, None), ([3], 3), (3, (3,)), ((3, 3),),
    ((3, 3), 1), {3: 3, 2: 2}, {2, 3}, (3, {}), (set(), 3), (fractions.Fraction(3), 3), (3, fractions.Fraction(3)))

GLIDER = [(0, 2), (1, 0), (1, 2), (2, 1), (2, 2)]
BLINKER = [(0, 1), (1, 1), (2, 1)]
BLOCK = [(0, 0), (0, 1), (1, 0), (1, 1)]
LIFE = (8, (3,), (2, 3))


def kinds(thing):
    """The classes of a thing and of all in it, for what == doesn't tell apart, such as 1 and True."""
    if isinstance(thing, dict):
        return {key: (kinds(key), kinds(value)) for key, value in thing.items()}
    if isinstance(thing, (list, tuple)):
        return (type(thing).__name__, [kinds(part) for part in thing])
    return type(thing).__name__


def spoil(thing):
    """Change whatever can be changed in a thing, inside out."""
    if isinstance(thing, dict):
        for value in list(thing.values()):
            spoil(value)
        for key in list(thing)[1:]:
            thing[key] = "spoilt"
        thing["spoilt"] = "spoilt"
    elif isinstance(thing, (list, tuple)):
        for part in thing:
            spoil(part)
        if isinstance(thing, list):
            thing.reverse()
            thing.append("spoilt")


def boxed(wide, high):
    """All pictures with all cells in a box, that without cells too."""
    cells = [(x, y) for x in range(wide) for y in range(high)]
    return [list(chosen) for many in range(len(cells) + 1) for chosen in itertools.combinations(cells, many)]


def rows_of_counts(least, kind):
    """All rising tuples of counts from the least one to the kind."""
    numbers = range(least, kind + 1)
    return [row for many in range(len(numbers) + 1) for row in itertools.combinations(numbers, many)]


def model_turned(cells, turning):
    a, b, c, d = turning
    return sorted((a * x + b * y, c * x + d * y) for x, y in cells)


def model_turnings(kind):
    around = sorted(MODEL_OFFSETS[kind])
    return [turning for turning in itertools.product(range(-2, 3), repeat=4)
            if model_turned(around, turning) == around]


# Reckoned once, as they are gone through by trying.
MODEL_TURNINGS = {kind: model_turnings(kind) for kind in KINDS}


def model_form(kind, cells):
    """The least of all turned pictures laid at nought."""
    faces = [model_turned(cells, turning) for turning in MODEL_TURNINGS[kind]]
    return min(model_moved(face, (-min(x for x, y in face), -min(y for x, y in face))) for face in faces)


def model_moved(cells, move):
    return [(x + move[0], y + move[1]) for x, y in cells]


def model_count(kind, cells, cell):
    return sum((cell[0] + dx, cell[1] + dy) in cells for dx, dy in MODEL_OFFSETS[kind])


def model_hang(kind, cells):
    """All cells that hang on some of these."""
    return {(x + dx, y + dy) for x, y in cells for dx, dy in MODEL_OFFSETS[kind] + [(0, 0)]}


def model_near(cells):
    """All cells at most one away from a living one, either way."""
    return sorted({(x + dx, y + dy) for x, y in cells for dx in (-1, 0, 1) for dy in (-1, 0, 1)})


def model_next(rule, cells):
    kind, born, stay = rule
    return [cell for cell in model_near(cells)
            if model_count(kind, cells, cell) in (stay if cell in cells else born)]


def model_after(rule, cells, many):
    for turn in range(many):
        cells = model_next(rule, cells)
    return cells


def model_turns(rule, cells, many):
    """The turns 0 to many, as a list."""
    rows = [list(cells)]
    for turn in range(many):
        rows.append(model_next(rule, rows[-1]))
    return rows


def model_move(one, other):
    """The move by which a picture with cells becomes another one, or None."""
    moves = [(other[0][0] - x, other[0][1] - y) for x, y in one] if other else []
    found = [move for move in moves if model_moved(one, move) == other]
    return found[0] if found else None


def model_ring_next(rule, size, cells):
    kind, born, stay = rule
    living = []
    for x in range(size[0]):
        for y in range(size[1]):
            around = [((x + dx) % size[0], (y + dy) % size[1]) for dx, dy in MODEL_OFFSETS[kind]]
            if sum(cell in cells for cell in around) in (stay if (x, y) in cells else born):
                living.append((x, y))
    return living


def model_things(rule, size, many, move):
    """All things in a box, by going through all its pictures."""
    found = []
    for cells in boxed(*size)[1:]:
        turn = cells
        for number in range(many):
            turn = next_turn(rule, turn)
        if turn == model_moved(cells, move):
            found.append(cells)
    return found


def model_forms(rule, size, many, move):
    """The forms of all things in a box, rising, each once."""
    forms = {tuple(model_form(rule[0], cells)) for cells in model_things(rule, size, many, move)}
    return [list(cells) for cells in sorted(forms)]


def put(*pictures):
    """The picture of all cells of some pictures."""
    return sorted({cell for cells in pictures for cell in cells})


class Case(unittest.TestCase):
    """Tests that ask each question with care for what is handed in and what is told."""

    def told(self, function, *handed):
        """The answer, asked three times: nothing handed in may change, nor what is told later."""
        kept = copy.deepcopy(handed)
        first = function(*handed)
        answer = copy.deepcopy(first)
        second = function(*handed)
        spoil(second)
        self.assertEqual(handed, kept, "what was handed in is changed")
        self.assertEqual(first, answer, "what was told is changed from another answer")
        spoil(first)
        third = function(*handed)
        self.assertEqual(handed, kept, "what was handed in is changed through an answer")
        self.assertEqual(third, answer, "what is told later is changed through an answer")
        self.assertEqual(kinds(third), kinds(answer))
        self.spoilt_afterwards(third, answer, function, kept)
        return answer

    def spoilt_afterwards(self, told, answer, function, kept):
        """What is done to what was handed in changes neither what was told nor what is told later."""
        own = copy.deepcopy(kept)
        last = function(*own)
        spoil(own)
        self.assertEqual(last, answer, "what was told hangs on what was handed in")
        self.assertEqual(function(*kept), answer, "what is told later hangs on what was handed in ahead")
        self.assertEqual(told, answer)

    def tells(self, wanted, function, *handed):
        """The answer is the wanted one, in its kinds, too."""
        answer = self.told(function, *handed)
        self.assertEqual(answer, wanted, handed)
        self.assertEqual(kinds(answer), kinds(wanted), handed)

    def refuses(self, error, function, *handed):
        """The refusal is of this very class, and changes nothing that was handed in."""
        kinds_kept = kinds(handed)
        shown = repr(handed)
        with self.assertRaises(CellError, msg=shown) as caught:
            function(*handed)
        self.assertIs(type(caught.exception), error, shown)
        self.assertIsInstance(caught.exception, ValueError)
        self.assertEqual((repr(handed), kinds(handed)), (shown, kinds_kept))
