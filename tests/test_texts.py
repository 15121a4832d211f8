"""Pictures and rules as texts (points 2, 34 and 35)."""

import itertools
import re
import unittest

from cellships.errors import NoText, TooWide
from cellships.texts import read_picture, read_rule, show_picture, show_rule
from tests.helper import (BLINKER, BLOCK, FAR, GLIDER, KINDS, LIFE, MOST, ODD_THINGS, Case, boxed, model_moved,
                          rows_of_counts)

NUMBER = r"(0|-?[1-9][0-9]{0,59})"
PICTURE = re.compile(NUMBER + "," + NUMBER + r" ([#.]+(?:/[#.]+)*)")
NO_TEXTS = ODD_THINGS + (0, 7, -1, [], ["-"], ("-",), [(0, 0)], (8, (3,), (2, 3)), {"-": "-"}, b"-", b"8:3:23",
                         b"0,0 #", ["0,0 #"], ("8:3:23",), [["-"]], {"-"}, ())


def model_picture(text):
    """The picture that a text writes, or None."""
    if text == "-":
        return []
    found = PICTURE.fullmatch(text)
    if found is None:
        return None
    left, top, rows = int(found[1]), int(found[2]), found[3].split("/")
    columns = ["".join(column) for column in zip(*rows)]
    if len({len(row) for row in rows}) > 1 or len(rows) > 40 or len(columns) > 40:
        return None
    if any("#" not in line for line in (rows[0], rows[-1], columns[0], columns[-1])):
        return None
    cells = sorted((left + x, top + y) for y, row in enumerate(rows) for x, sign in enumerate(row) if sign == "#")
    return cells if all(abs(number) <= MOST for cell in cells for number in cell) else None


def model_rule(text):
    """The rule that a text writes, or None."""
    found = re.fullmatch(r"([468]):([0-8]*):([0-8]*)", text)
    if found is None:
        return None
    kind, born, stay = int(found[1]), [int(sign) for sign in found[2]], [int(sign) for sign in found[3]]
    for counts in (born, stay):
        if counts != sorted(set(counts)) or counts and counts[-1] > kind:
            return None
    return (kind, tuple(born), tuple(stay))


def bent_texts(text, signs):
    """A text bent once: each sign left out, doubled, another, one more at each place, two exchanged."""
    for at in range(len(text) + 1):
        for sign in signs:
            yield text[:at] + sign + text[at:]
            if at < len(text):
                yield text[:at] + sign + text[at + 1:]
        if at < len(text):
            yield text[:at] + text[at + 1:]
            yield text[:at] + text[at] + text[at:]
        if at + 1 < len(text):
            yield text[:at] + text[at + 1] + text[at] + text[at + 2:]
    yield text + text
    yield text + " " + text


class ShowPictureTest(Case):

    def test_by_hand(self):
        self.tells("-", show_picture, [])
        self.tells("0,0 #", show_picture, [(0, 0)])
        self.tells("3,-2 .#./#.#", show_picture, [(3, -1), (4, -2), (5, -1)])
        self.tells("0,0 .#./..#/###", show_picture, GLIDER)
        self.tells("0,1 ###", show_picture, BLINKER)
        self.tells("-7,12 ##/##", show_picture, model_moved(BLOCK, (-7, 12)))
        self.tells("0,-5 #/./#", show_picture, [(0, -5), (0, -3)])

    def test_far_cells(self):
        self.tells(f"{MOST},-{MOST} #", show_picture, [(MOST, -MOST)])
        self.tells(f"-{MOST},{FAR} #.#", show_picture, [(-MOST, FAR), (2 - MOST, FAR)])

    def test_told_numbers_of_more_than_sixty_figures(self):
        for number in (MOST + 1, 10 ** 61, 12 * 10 ** 200):
            self.tells(f"{number},-{number} #", show_picture, [(number, -number)])
            self.tells(f"{number},0 ##", show_picture, [(number, 0), (number + 1, 0)])
        self.tells(f"{MOST},0 ##", show_picture, [(MOST, 0), (MOST + 1, 0)])

    def test_forty_and_forty_one(self):
        for move in ((0, 0), (-20, 7), (FAR, -FAR)):
            for x, y in ((39, 0), (0, 39), (39, 39), (39, -39), (20, 39)):
                cells = sorted(model_moved([(0, 0), (x, y)], move))
                text = self.told(show_picture, cells)
                self.assertEqual(model_picture(text), cells)
                self.tells(cells, read_picture, text)
            for x, y in ((40, 0), (0, 40), (40, 40), (40, -40), (39, 40), (40, 39), (FAR, 0), (0, FAR), (-1, 40)):
                self.refuses(TooWide, show_picture, sorted(model_moved([(0, 0), (x, y)], move)))
        full = [(x, y) for x in range(40) for y in range(40)]
        self.assertEqual(show_picture(full), "0,0 " + "/".join(["#" * 40] * 40))
        self.assertEqual(read_picture(show_picture(full)), full)
        self.refuses(TooWide, show_picture, [(-MOST, -MOST), (MOST, MOST)])

    def test_there_and_back(self):
        for cells in boxed(3, 3):
            for move in ((0, 0), (-2, 5), (-FAR, FAR)):
                laid = model_moved(cells, move)
                text = show_picture(laid)
                self.assertEqual(model_picture(text), laid)
                self.assertEqual(read_picture(text), laid)

    def test_no_two_have_one_text(self):
        texts = {show_picture(model_moved(cells, (dx, 0))) for cells in boxed(3, 2)[1:] for dx in range(3)}
        pictures = {tuple(model_moved(cells, (dx, 0))) for cells in boxed(3, 2)[1:] for dx in range(3)}
        self.assertEqual(len(texts), len(pictures))


class ReadPictureTest(Case):

    def reads(self, text):
        """The text is read as the model reads it, or refused; whether it is read."""
        wanted = model_picture(text)
        if wanted is None:
            self.refuses(NoText, read_picture, text)
        else:
            self.assertEqual(read_picture(text), wanted, text)
            self.assertEqual(show_picture(wanted), text)
        return wanted is not None

    def test_by_hand(self):
        self.tells([], read_picture, "-")
        self.tells([(0, 0)], read_picture, "0,0 #")
        self.tells([(3, -1), (4, -2), (5, -1)], read_picture, "3,-2 .#./#.#")
        self.tells([(-10, -1), (-10, 1)], read_picture, "-10,-1 #/./#")
        self.tells([(MOST, -MOST)], read_picture, f"{MOST},-{MOST} #")
        self.tells([(MOST - 1, 1 - MOST), (MOST, 2 - MOST)], read_picture, f"{MOST - 1},{1 - MOST} #./.#")

    def test_numbers(self):
        for number in ("-0", "00", "01", "-01", "007", "+1", "", "-", "--1", "1-", "1.0", "1e3", "0x1", "1_0", " 1",
                       "1 ", "a", "#", "10" * 30 + "0", "-" + "1" * 61, "0" * 60, "9" * 61, "9" * 1000, "1\n", "\n1",
                       "\u0661", "\u00b2", "\uff11"):
            for text in (f"{number},0 #", f"0,{number} #", f"{number},{number} #"):
                self.refuses(NoText, read_picture, text)
        for number in ("0", "5", "-5", "10", "-100", "9" * 60, "-" + "9" * 60, "1" + "0" * 59):
            self.tells([(int(number), 0)], read_picture, f"{number},0 #")
            self.tells([(0, int(number))], read_picture, f"0,{number} #")

    def test_what_is_not_written_so(self):
        for text in ("", " ", "--", "- ", " -", "-\n", "\n-", "-\t", "0", "0,0", "0,0 ", "#", " #", "0,0 -", "- #", "-,- #",
                     ",0 #", "0, #", ", #", "0,0  #", " 0,0 #", "0,0 # ", "0,0 #\n", "\n0,0 #", "0,0\n#", "0,0\t#",
                     "0, 0 #", "0 ,0 #", "0 0 #", "0,0,0 #", "0;0 #", "0.0 #", "(0,0) #", "0,0#", "0,0/#", "0,0 #,#",
                     "0,0 .", "0,0 .#", "0,0 #.", "0,0 ./#", "0,0 #/.", "0,0 ../..", "0,0 .#./#..", "0,0 #/##", "0,0 ##/#",
                     "0,0 #//#", "0,0 /#", "0,0 #/", "0,0 /", "0,0 //", "0,0 # #", "0,0 #/ #", "0,0 #\\#", "0,0 O", "0,0 x",
                     "0,0 *", "0,0 #o#", "0,0 1", "0,0 # 0,0 #", "0,0 #;0,0 #", "0,0 #; 0,0 #", "8:3:23", "+", "none",
                     "0,0 #.#/.", "0,0 #.#/.#", "0,0 ..#/..#", "0,0 #../#..", "0,0 ###/...", "0,0 .../###"):
            self.assertFalse(self.reads(text), text)

    def test_a_cell_beyond_sixty_figures(self):
        for text in (f"{MOST},0 ##", f"0,{MOST} #/#", f"{MOST - 1},0 #.#", f"{MOST - 38},0 #" + "." * 38 + "#",
                     f"0,{MOST} #./.#", f"{MOST + 1},0 #", f"-{MOST + 1},0 #", f"0,{MOST + 1} #"):
            self.refuses(NoText, read_picture, text)
        self.tells([(MOST - 1, 0), (MOST, 0)], read_picture, f"{MOST - 1},0 ##")
        self.tells([(0, MOST - 1), (0, MOST)], read_picture, f"0,{MOST - 1} #/#")
        self.tells([(-MOST, 0), (1 - MOST, 0)], read_picture, f"-{MOST},0 ##")

    def test_forty_and_forty_one(self):
        for wide, high in itertools.product((1, 2, 39, 40, 41, 42, 60), repeat=2):
            text = "0,0 " + "/".join(["#" * wide] * high)
            self.assertIs(self.reads(text), wide <= 40 and high <= 40, (wide, high))
        self.refuses(NoText, read_picture, "0,0 " + "#" * 1990)
        self.refuses(NoText, read_picture, "0,0 " + "#/" * 900 + "#")
        self.refuses(NoText, read_picture, "0,0 " + "#" * 40 + "/" + "#" * 41)

    def test_bent_texts(self):
        for text in ("-", "0,0 #", "3,-2 .#./#.#", "-10,0 ##/.#/#.", "10,99 #.#"):
            held = [self.reads(other) for other in bent_texts(text, "-0,1 #./\n:a%+")]
            self.assertEqual(set(held), {True, False})

    def test_all_short_texts(self):
        held = 0
        for many in range(8):
            for signs in itertools.product("-0,1 #/", repeat=many):
                text = "".join(signs)
                wanted = model_picture(text)
                try:
                    self.assertEqual(read_picture(text), wanted)
                    held += 1
                except NoText:
                    self.assertIsNone(wanted, text)
        self.assertGreater(held, 30)

    def test_what_is_no_text(self):
        for thing in NO_TEXTS:
            if thing != "-":
                self.refuses(NoText, read_picture, thing)

    def test_each_told_list_is_a_new_one(self):
        for text in ("-", "0,0 #", "0,0 .#./..#/###"):
            self.told(read_picture, text)


class RulesTest(Case):

    def reads(self, text):
        wanted = model_rule(text)
        if wanted is None:
            self.refuses(NoText, read_rule, text)
        else:
            self.assertEqual(read_rule(text), wanted, text)
            self.assertEqual(show_rule(wanted), text)
        return wanted is not None

    def test_by_hand(self):
        for told, text in ((LIFE, "8:3:23"), ((4, (), (0,)), "4::0"), ((4, (), ()), "4::"), ((6, (), ()), "6::"),
                           ((6, (2,), (3, 4)), "6:2:34"), ((8, (0,), ()), "8:0:"), ((8, (), (0, 8)), "8::08"),
                           ((8, tuple(range(9)), tuple(range(9))), "8:012345678:012345678"),
                           ((6, tuple(range(7)), ()), "6:0123456:"), ((4, (), tuple(range(5))), "4::01234")):
            self.tells(text, show_rule, told)
            self.tells(told, read_rule, text)

    def test_there_and_back(self):
        for kind in KINDS:
            rows = rows_of_counts(0, kind)
            for born, stay in itertools.product(rows[::max(1, len(rows) // 60)], repeat=2):
                text = show_rule((kind, born, stay))
                self.assertEqual(model_rule(text), (kind, born, stay))
                self.assertEqual(read_rule(text), (kind, born, stay))

    def test_what_is_not_written_so(self):
        for text in ("", ":", "::", ":::", "8", "8:", "8:3", "8:3:23:", ":8:3:23", "8::3:23", "8:3::23", "8:3:23 ", " 8:3:23",
                     "8: 3:23", "8:3:2 3", "8 :3:23", "8:3:23\n", "\n8:3:23", "8;3;23", "8/3/23", "8:3/23", "8,3,23",
                     "8:33:23", "8:3:32", "8:3:22", "8:3:223", "8:3:233", "8:21:3", "8:9:2", "8::9", "4:5:", "4::5", "6:7:",
                     "6::7", "4:01235:", "6:8:", "5:3:2", "7::", "3::", "2::", "0::", "1::", "9::", "10::", "12::", "08::",
                     "-8:3:23", "+8:3:23", "8:-3:23", "8:3:-2", "8:3,4:2", "8:3:2,3", "B3/S23", "8:a:2", "8:3:x", "88:3:23",
                     "8:3:23:23", "4:0:0:0", "8.0:3:23", "8:3:2.3", "-", "0,0 #", "8:\u0663:23", "8:3:\u00b2", "\uff18:3:23",
                     "4:4:44", "8:012345679:", "8:876543210:"):
            self.assertFalse(self.reads(text), text)

    def test_bent_texts(self):
        for text in ("8:3:23", "4::0", "6:246:0", "4:01234:01234"):
            held = [self.reads(other) for other in bent_texts(text, "0123456789: -\n+a#")]
            self.assertEqual(set(held), {True, False})

    def test_all_short_texts(self):
        held = 0
        for many in range(7):
            for signs in itertools.product("468:05 ", repeat=many):
                held += self.reads_quickly("".join(signs))
        self.assertGreater(held, 100)

    def reads_quickly(self, text):
        try:
            told = read_rule(text)
        except NoText:
            told = None
        self.assertEqual(told, model_rule(text), text)
        return told is not None

    def test_what_is_no_text(self):
        for thing in NO_TEXTS:
            self.refuses(NoText, read_rule, thing)


if __name__ == "__main__":
    unittest.main()
