"""A desk that is told lines (points 2, 34, 35, 37 and 38)."""

import copy
import unittest

from cellships.desk import Desk
from cellships.errors import (CellError, Loud, NoLine, NoName, NoNumber, NoSize, NoText, NoThing, Outside, TooWide)
from cellships.fathers import holds_father
from cellships.texts import read_picture, show_picture
from tests.helper import (BLINKER, BLOCK, FAR, GLIDER, LIFE, MODEL_TURNINGS, MOST, ODD_THINGS, Case, boxed,
                          model_after, model_forms, model_moved, model_turned, model_turns)

SHIP = "0,0 .#./..#/###"
WIDE = "0,0 " + "#" + "." * 38 + "#"

# One line of each sort that is answered by a desk on which a, b and c stand.
GOOD_LINES = (
    "rule 8:3:23", "put a -", "put new 0,0 #", "go a 3", "turn a 2", "move a 1 -1", "back a", "show a", "names",
    "fate a 9", "alike a b", "parts a 3", "meet a b", "seek 2 2 1 0 0", "father c 2 2", "rests 2 2 1")
# For each first word a row of such words as the line's, to be bent one by one.
WORDS = {line.split(" ")[0]: line.split(" ")[1:] for line in GOOD_LINES if line != "put a -"}
BAD_NAMES = ("", "A", "aA", "abcdefghi", "a1", "1", "a-b", "a_b", "a.", "\u00e4", "\u0430", "a\n", "\na", "-", "#", "a,b",
             "a" * 100, "Names")
UNKNOWN_NAMES = ("x", "aa", "ab", "names", "rule", "abcdefgh", "zzzzzzzz")
BAD_NUMBERS = ("", "a", "-0", "00", "01", "+1", "1.0", "1e1", "--1", "-", "0x1", "1_0", "1,0", "#", "9" * 61,
               "-" + "1" * 61, "\u0661", "1\n", "\n1", "0" * 60, "one")
BAD_RULES = ("", "8", "8:3", "8:3:32", "9:3:2", "8:3:23:", "8:33:2", "4:5:", "-", "0,0", "rule", "8:3:2\n")
BAD_PICTURES = ("", " ", "#", "0,0", "0,0 ", "0,0 .", "0,0  #", "0,0 # ", " 0,0 #", "- ", " -", "-0,0 #", "0,0 #/##", "a",
                "0,0 # #", "0,0 #\n", "0,0 " + "#" * 41, f"{MOST},0 ##", "0,0 x", "0,0 #; 0,0 #", "9" * 61 + ",0 #")


def desk_with(*lines):
    desk = Desk()
    for line in lines:
        desk.say(line)
    return desk


class DeskCase(Case):

    def says(self, desk, *rows):
        """Each line is answered so."""
        for line, wanted in rows:
            answer = desk.say(line)
            self.assertEqual(answer, wanted, line)
            self.assertIs(type(answer), str, line)

    def spurns(self, desk, error, *lines):
        """Each line is refused so, and changes nothing of the desk."""
        for line in lines:
            kept = copy.deepcopy(vars(desk))
            with self.assertRaises(CellError, msg=repr(line)) as caught:
                desk.say(line)
            self.assertIs(type(caught.exception), error, repr(line))
            self.assertEqual(vars(desk), kept, repr(line))

    def standing(self):
        return desk_with("put a " + SHIP, "put b 9,9 ##/##", "put c 0,0 ##/##", "go a 4")


class LinesTest(DeskCase):

    def test_put_show_names(self):
        desk = Desk()
        self.says(desk, ("names", ""), ("put b " + SHIP, "ok"), ("names", "b"), ("show b", SHIP), ("put a -", "ok"),
                  ("show a", "-"), ("names", "a b"), ("put zz 3,-2 .#./#.#", "ok"), ("names", "a b zz"),
                  ("show zz", "3,-2 .#./#.#"), ("put a 0,0 #", "ok"), ("show a", "0,0 #"), ("names", "a b zz"),
                  ("put abcdefgh -", "ok"), ("put names -", "ok"), ("names", "a abcdefgh b names zz"))

    def test_go(self):
        desk = desk_with("put a " + SHIP)
        for many in (0, 1, 2, 4, 60):
            before = read_picture(desk.say("show a"))
            self.says(desk, (f"go a {many}", "ok"), ("show a", show_picture(model_after(LIFE, before, many))))
        self.says(desk, ("put b 0,0 #", "ok"), ("go b 1", "ok"), ("show b", "-"), ("go b 60", "ok"), ("show b", "-"))

    def test_go_by_other_rules(self):
        for text, told in (("4:1:", (4, (1,), ())), ("6:2:34", (6, (2,), (3, 4))), ("8:2:", (8, (2,), ())), ("4::", (4, (), ()))):
            desk = desk_with("rule " + text, "put a " + SHIP)
            for many in (1, 3, 5):
                before = read_picture(desk.say("show a"))
                self.says(desk, (f"go a {many}", "ok"), ("show a", show_picture(model_after(told, before, many))))

    def test_turn(self):
        for text, kind in (("4:1:", 4), ("6:2:34", 6), ("8:3:23", 8)):
            for place, turning in enumerate(MODEL_TURNINGS[kind]):
                desk = desk_with("rule " + text, "put a 3,-2 .#./#.#/##.")
                cells = model_turned(read_picture("3,-2 .#./#.#/##."), turning)
                self.says(desk, (f"turn a {place}", "ok"), ("show a", show_picture(cells)))
            many = len(MODEL_TURNINGS[kind])
            self.spurns(desk, NoNumber, *[f"turn a {place}" for place in (many, many + 1, 50, 98, 99)])
            self.spurns(desk, NoText, *[f"turn a {place}" for place in (-1, -8, 100, 1000, FAR)])

    def test_move(self):
        desk = desk_with("put a " + SHIP)
        self.says(desk, ("move a 1 -1", "ok"), ("show a", "1,-1 .#./..#/###"), ("move a 0 0", "ok"),
                  ("show a", "1,-1 .#./..#/###"), (f"move a {FAR} -{FAR}", "ok"),
                  ("show a", f"{FAR + 1},-{FAR + 1} .#./..#/###"))
        desk = desk_with("put a 0,0 #", f"move a {MOST} -{MOST}", f"move a {MOST} -{MOST}")
        self.says(desk, ("show a", f"{2 * MOST},-{2 * MOST} #"), ("fate a 3", "gone 1"), ("move a -1 1", "ok"),
                  ("show a", f"{2 * MOST - 1},{1 - 2 * MOST} #"))

    def test_fate(self):
        desk = desk_with("put a " + SHIP, "put b 0,0 ##/##", "put c 0,0 ###", "put d 0,0 #", "put e -",
                         "put f 0,0 .##/##./.#.")
        self.says(desk, ("fate a 60", "comes 0 4 1,1"), ("fate a 4", "comes 0 4 1,1"), ("fate a 3", "on"), ("fate a 0", "on"),
                  ("fate b 1", "comes 0 1 0,0"), ("fate b 0", "on"), ("fate c 60", "comes 0 2 0,0"), ("fate d 60", "gone 1"),
                  ("fate d 0", "on"), ("fate e 0", "gone 0"), ("fate e 60", "gone 0"), ("fate f 60", "on"),
                  ("turn a 0", "ok"), ("fate a 60", "comes 0 4 -1,-1"), ("show a", "-2,-2 ###/#../.#."))
        self.says(desk, ("put g 0,0 ##/#.", "ok"), ("fate g 9", "comes 1 1 0,0"))

    def test_alike(self):
        desk = desk_with("put a " + SHIP, "put b 7,-9 ###/#../.#.", "put c 0,0 ##/##", "put d 0,0 ##", "put e 0,0 #./.#",
                         "put f -", "put g -")
        self.says(desk, ("alike a b", "yes"), ("alike b a", "yes"), ("alike a a", "yes"), ("alike a c", "no"),
                  ("alike d e", "no"), ("alike f g", "yes"), ("alike f a", "no"), ("rule 6:2:", "ok"), ("alike d e", "yes"),
                  ("rule 4:2:", "ok"), ("alike d e", "no"))

    def test_parts(self):
        desk = desk_with("put a 0,0 ##..##/##..##", "put b 0,0 ##.##/##.##", "put c -", "put d 5,5 ###")
        self.says(desk, ("parts a 30", "0,0 ##/##; 4,0 ##/##"), ("parts a 1", "0,0 ##/##; 4,0 ##/##"),
                  ("parts b 1", "0,0 ##.##/##.##"), ("parts b 0", "; ".join(
                      f"{x},{y} #" for x in (0, 1, 3, 4) for y in (0, 1))), ("parts c 0", ""), ("parts c 30", ""),
                  ("parts d 0", "5,5 #; 6,5 #; 7,5 #"), ("parts d 3", "5,5 ###"))

    def test_meet(self):
        desk = desk_with("put a " + SHIP, "put b 10,10 ##/##", "put c 0,0 ##/##", "put d -9,-9 ##/##", "put e 0,0 #", "put f -")
        self.says(desk, ("meet a b", "meet 24"), ("meet b a", "meet 24"), ("meet a d", "apart"), ("meet d a", "apart"),
                  ("meet b c", "apart"), ("meet a a", "meet 0"), ("meet c c", "meet 0"))
        self.spurns(desk, NoThing, "meet a e", "meet e a", "meet f a", "meet a f", "meet f f")

    def test_seek(self):
        desk = Desk()
        self.says(desk, ("seek 2 2 1 0 0", "0,0 ##/##"), ("seek 1 1 1 0 0", "none"), ("seek 3 3 4 5 5", "none"),
                  ("seek 3 1 2 0 0", "0,0 #/#/#"), ("rule 4::0", "ok"), ("seek 2 1 4 0 0", "0,0 #"),
                  ("seek 2 2 1 0 0", "0,0 #; 0,0 #./.#"), (f"seek 2 2 1 {FAR} -{FAR}", "none"))
        for many, dx, dy in ((4, 1, 1), (4, -1, 1), (1, 0, 0), (2, 0, 0)):
            desk = Desk()
            wanted = "; ".join(show_picture(cells) for cells in model_forms(LIFE, (3, 3), many, (dx, dy)))
            self.says(desk, (f"seek 3 3 {many} {dx} {dy}", wanted))
        self.spurns(desk, NoSize, "seek 0 1 1 0 0", "seek 1 0 1 0 0", "seek 4 3 1 0 0", "seek -1 -1 4 0 0", "seek 10 1 2 5 5",
                    f"seek {MOST} 1 1 0 0", f"seek 1 -{MOST} 1 0 0")
        self.spurns(desk, NoText, "seek 2 2 0 0 0", "seek 2 2 5 0 0", "seek 2 2 -1 0 0", f"seek 2 2 {FAR} 0 0",
                    "seek 0 0 0 0 0", "seek 99 99 5 0 0")

    def test_father(self):
        desk = desk_with("put a 1,1 #", "put b -", "put c 0,0 ##", "put d -1,0 #")
        for name, cells in (("a", [(1, 1)]), ("b", []), ("c", [(0, 0), (1, 0)])):
            for wide, high in ((2, 2), (3, 3), (2, 4)):
                word, text = desk.say(f"father {name} {wide} {high}").split(" ", 1)
                self.assertEqual(word, "father")
                self.assertIs(holds_father(LIFE, (wide, high), cells, read_picture(text)), True)
        self.says(desk, ("rule 8:8:", "ok"), ("father c 2 1", "none"), ("rule 8::", "ok"), ("father a 2 2", "none"))
        self.says(desk, ("rule 8:8:", "ok"), ("put e 0,0 #", "ok"), ("father e 1 1", "father -1,-1 ###/#.#/###"))
        self.spurns(desk, Outside, "father a 1 1", "father a 1 6", "father c 1 1", "father d 3 3")
        self.spurns(desk, NoSize, "father a 0 1", "father a 4 1", "father a 3 4", "father a 1 7", "father d 0 0",
                    "father a -1 -1", f"father b {MOST} {MOST}", "father a 2 5")

    def test_rests(self):
        desk = Desk()
        self.says(desk, ("rests 2 2 0", "-"), ("rests 2 2 1", "0,0 ##/##"), ("rests 4 60 0", "-"),
                  ("rests 4 60 1", "0,58 ##/##"), ("rests 1 60 0", "-"))
        self.spurns(desk, NoNumber, "rests 2 2 2", "rests 2 2 -1", "rests 1 1 1", f"rests 4 60 {MOST}")
        self.spurns(desk, NoSize, "rests 0 1 0", "rests 5 1 0", "rests 1 61 0", "rests 1 0 0", "rests -1 5 -1", f"rests {FAR} 1 0")
        # The picture of the greatest number is higher than 40 rows.
        self.spurns(desk, TooWide, "rests 4 60 24943776704378463663459288")
        self.spurns(desk, NoNumber, "rests 4 60 24943776704378463663459289")

    def test_rule(self):
        desk = desk_with("put a 0,0 ##")
        self.says(desk, ("rule 4::", "ok"), ("fate a 9", "gone 1"), ("rule 4::01234", "ok"), ("fate a 9", "comes 0 1 0,0"),
                  ("rule 8:3:23", "ok"), ("fate a 9", "gone 1"))
        self.spurns(desk, Loud, "rule 8:0:", "rule 4:01:2", "rule 6:0123456:0123456", "rule 8:03:23")
        self.says(desk, ("fate a 9", "gone 1"))

    def test_the_first_rule(self):
        for cells in boxed(3, 3)[::9]:
            desk = desk_with("put a " + show_picture(cells))
            self.says(desk, ("go a 2", "ok"), ("show a", show_picture(model_after(LIFE, cells, 2))))


class RefusalsTest(DeskCase):

    def test_good_lines(self):
        for line in GOOD_LINES:
            self.assertIs(type(self.standing().say(line)), str)

    def test_no_line_by_the_first_word(self):
        desk = self.standing()
        self.spurns(desk, NoLine, "", " ", "  ", "a", "Rule 8:3:23", "RULE 8:3:23", "ruler 8:3:23", "rul 8:3:23", "name",
                    "names ", " names", "names\n", "\nnames", "names  ", "names a", "shows a", " show a", "show\ta", "show\na",
                    "puts a -", "PUT a -", " put a -", "-", "0,0 #", "8:3:23", "move\n", "fates a 3", "undo a", "rest 2 2 0",
                    "meets a b", "seeks 2 2 1 0 0", "fathers a 1 1", "part a 3", "quit", "help", "say names", "\u00e4 a")

    def test_no_line_by_the_count_of_words(self):
        desk = self.standing()
        for first, words in WORDS.items():
            row = [first] + words
            # A picture may be of one word.
            for many in range(1, 3 if first == "put" else len(row)):
                self.spurns(desk, NoLine, " ".join(row[:many]))
            if first == "put":
                continue
            self.spurns(desk, NoLine, " ".join(row + ["a"]), " ".join(row + ["1"]), " ".join(row + [""]),
                        " ".join(row + ["", ""]), " ".join(["", *row]), "  ".join(row) + " " * 3,
                        " ".join(row + row), first + " " + " ".join(row + ["0"]))

    def test_doubled_blanks_are_words_without_signs(self):
        desk = self.standing()
        self.spurns(desk, NoName, "show ", "back ", "put  -", "put  a -", "go  3", "alike a ", "alike  a", "meet  b", "fate  3")
        self.spurns(desk, NoText, "rule ", "go a ", "move a  1", "move a 1 ", "put a ", "put a  -", "put a  0,0 #",
                    "put a 0,0  #", "put a - ", "parts a ", "seek 2 2 1 0 ", "seek  2 1 0 0", "rests 2  0", "father a  2")
        self.spurns(desk, NoLine, "show  a", "show a ", "go a  3", "go  a 3", "rule  8:3:23", "rule 8:3:23 ", "names  ")

    def test_no_text_at_all(self):
        desk = self.standing()
        for thing in ODD_THINGS + (0, 7, [], ["names"], ("names",), b"names", {"names": 1}, [["names"]], ("show", "a")):
            if thing not in ("", "4", "23"):
                self.spurns(desk, NoLine, thing)
        self.spurns(desk, NoLine, "4", "23")

    def test_no_name(self):
        desk = self.standing()
        for line in ("go {} 3", "turn {} 2", "move {} 1 1", "back {}", "show {}", "fate {} 9", "alike {} a", "alike a {}",
                     "alike {} {}", "parts {} 3", "meet {} a", "meet a {}", "father {} 2 2"):
            for name in BAD_NAMES + UNKNOWN_NAMES:
                self.spurns(desk, NoName, line.replace("{}", name))
        for name in BAD_NAMES:
            self.spurns(desk, NoName, f"put {name} -", f"put {name} 0,0 #", f"put {name} no picture")
        for name in UNKNOWN_NAMES:
            self.says(self.standing(), (f"put {name} 0,0 #", "ok"), (f"show {name}", "0,0 #"))

    def test_numbers_that_are_none(self):
        desk = self.standing()
        for line in ("go a {}", "turn a {}", "move a {} 1", "move a 1 {}", "fate a {}", "parts a {}", "seek {} 2 1 0 0",
                     "seek 2 {} 1 0 0", "seek 2 2 {} 0 0", "seek 2 2 1 {} 0", "seek 2 2 1 0 {}", "father a {} 2",
                     "father a 2 {}", "rests {} 2 0", "rests 2 {} 0", "rests 2 2 {}"):
            for number in BAD_NUMBERS:
                self.spurns(desk, NoText, line.replace("{}", number))

    def test_numbers_out_of_bounds(self):
        desk = self.standing()
        for word, most in (("go", 60), ("fate", 60), ("parts", 30), ("turn", 99)):
            self.spurns(desk, NoText, *[f"{word} a {number}" for number in (-1, most + 1, 2 * most, -FAR, FAR, MOST)])
        for line in ("go a 0", "go a 60", "fate a 0", "fate a 60", "parts a 0", "parts a 30", "turn a 0"):
            self.assertIs(type(desk.say(line)), str)
        self.spurns(desk, NoNumber, "turn a 99", "turn a 8")

    def test_rules_and_pictures_that_are_none(self):
        desk = self.standing()
        for text in BAD_RULES:
            self.spurns(desk, NoText, "rule " + text)
        for text in BAD_PICTURES:
            self.spurns(desk, NoText, "put a " + text, "put new " + text)

    def test_word_by_word_from_the_left(self):
        desk = self.standing()
        self.spurns(desk, NoName, "go x 99", "go A x", "turn x x", "move x y z", "fate x 61", "parts x 31", "father x 0 0",
                    "father x a b", "put A #", "put abcdefghi 0,0 .", "alike x A", "alike a x", "meet x a", "meet a A",
                    "alike A a", "move x 1 01")
        self.spurns(desk, NoText, "move a x 1", "move a 1 x", "father a 0 x", "father a x 0", "seek 0 0 9 0 0", "seek 0 0 1 0 x",
                    "seek x 0 1 0 0", "rests 0 0 x", "rests 9 x 0", "rests x 9 9", "rule 8:03:32")
        # Only where all words are well the function's own refusals are told.
        self.spurns(desk, NoSize, "seek 0 0 1 0 0", "rests 0 0 -1", "rests 9 9 99", "father a 0 0", "father a 4 1")
        self.spurns(desk, NoNumber, "rests 2 2 9", "turn a 9")
        self.spurns(desk, Outside, "father a 1 1", "father b 3 3")
        self.spurns(desk, Loud, "rule 8:03:23")

    def test_names_of_one_to_eight_letters(self):
        for many in range(1, 9):
            for letter in "amz":
                desk = desk_with(f"put {letter * many} -")
                self.says(desk, ("names", letter * many), (f"show {letter * many}", "-"))
        for many in (0, 9, 10, 50):
            self.spurns(Desk(), NoName, f"put {'q' * many} -")
        for letter in "abcdefghijklmnopqrstuvwxyz":
            self.says(Desk(), (f"put {letter} -", "ok"), ("names", letter))

    def test_too_wide(self):
        desk = desk_with("put a " + WIDE, "put b " + WIDE, "rule 8:1:012345678")
        self.says(desk, ("show a", WIDE), ("alike a b", "yes"))
        self.says(desk, ("go a 1", "ok"))
        self.spurns(desk, TooWide, "show a", "parts a 20")
        self.says(desk, ("fate a 5", "on"), ("alike a a", "yes"), ("alike a b", "no"), ("back a", "ok"), ("show a", WIDE))
        desk = desk_with("put a 0,0 ##/##", "put b 90,90 ##/##", "rule 8:3:2345678")
        self.says(desk, ("show a", "0,0 ##/##"), ("show b", "90,90 ##/##"))


class BackTest(DeskCase):

    def test_back_of_each_deed(self):
        desk = desk_with("put a " + SHIP)
        shown = [desk.say("show a")]
        for line in ("go a 3", "turn a 5", "move a 7 -7", "put a 0,0 ##", "go a 1", "put a 1,1 #", "move a -1 0"):
            self.says(desk, (line, "ok"))
            shown.append(desk.say("show a"))
        for wanted in shown[-2::-1]:
            self.says(desk, ("back a", "ok"), ("show a", wanted), ("names", "a"))
        self.says(desk, ("back a", "ok"), ("names", ""))
        self.spurns(desk, NoName, "back a", "show a", "go a 1", "back a")
        self.says(desk, ("put a -", "ok"), ("show a", "-"), ("back a", "ok"), ("names", ""))

    def test_deeds_that_leave_the_picture_as_it_was(self):
        desk = desk_with("put a 0,0 ##/##", "go a 0", "go a 5", "move a 0 0", "turn a 7", "put a 0,0 ##/##")
        for left in range(5):
            self.says(desk, ("back a", "ok"), ("show a", "0,0 ##/##"))
        self.says(desk, ("back a", "ok"), ("names", ""))
        self.spurns(desk, NoName, "back a")

    def test_what_is_no_deed_is_not_taken_back(self):
        desk = desk_with("put a " + SHIP, "go a 1", "show a", "fate a 9", "names", "rule 4:2:", "rule 8:3:23", "parts a 2",
                         "alike a a", "meet a a", "seek 1 1 1 0 0", "rests 1 1 0")
        self.spurns(desk, NoText, "go a 61", "move a 1 x", "put a x")
        self.spurns(desk, NoNumber, "turn a 8")
        self.says(desk, ("back a", "ok"), ("show a", SHIP), ("back a", "ok"), ("names", ""))

    def test_back_after_back(self):
        desk = desk_with("put a 0,0 #", "put a 0,0 ##", "put a 0,0 ###")
        self.says(desk, ("back a", "ok"), ("show a", "0,0 ##"), ("move a 1 1", "ok"), ("back a", "ok"), ("show a", "0,0 ##"),
                  ("back a", "ok"), ("show a", "0,0 #"), ("put a -", "ok"), ("back a", "ok"), ("show a", "0,0 #"),
                  ("back a", "ok"), ("names", ""))

    def test_names_are_kept_apart(self):
        desk = desk_with("put a 0,0 #", "put b 0,0 ##", "move a 5 5", "move b 1 1", "put c -")
        self.says(desk, ("back a", "ok"), ("show a", "0,0 #"), ("show b", "1,1 ##"), ("back b", "ok"), ("show b", "0,0 ##"),
                  ("back b", "ok"), ("names", "a c"), ("show a", "0,0 #"), ("back c", "ok"), ("names", "a"))

    def test_a_rule_told_later_changes_no_picture(self):
        desk = desk_with("put a " + SHIP, "go a 2")
        shown = desk.say("show a")
        self.says(desk, ("rule 4::", "ok"), ("show a", shown), ("go a 1", "ok"), ("show a", "-"), ("rule 8:3:23", "ok"),
                  ("show a", "-"), ("back a", "ok"), ("show a", shown), ("back a", "ok"), ("show a", SHIP),
                  ("go a 2", "ok"), ("show a", shown))

    def test_back_takes_no_rule_back(self):
        desk = desk_with("put a 0,0 #", "rule 4::0", "move a 1 0")
        self.says(desk, ("back a", "ok"), ("fate a 3", "comes 0 1 0,0"), ("back a", "ok"), ("put a 0,0 #", "ok"),
                  ("fate a 3", "comes 0 1 0,0"))

    def test_two_desks_are_apart(self):
        one, other = Desk(), Desk()
        self.says(one, ("put a 0,0 #", "ok"), ("rule 4::0", "ok"))
        self.says(other, ("names", ""), ("put a 0,0 ##", "ok"), ("fate a 3", "gone 1"))
        self.says(one, ("show a", "0,0 #"), ("fate a 3", "comes 0 1 0,0"), ("back a", "ok"), ("names", ""))
        self.says(other, ("names", "a"), ("show a", "0,0 ##"))
        self.says(Desk(), ("names", ""), ("put a 0,0 #", "ok"), ("fate a 3", "gone 1"))

    def test_as_a_model_of_heaps(self):
        lines = ("put a 0,0 ##/#.", "go a 2", "put b " + SHIP, "move b 2 3", "back a", "go b 5", "turn b 3", "back b",
                 "put a -", "back b", "back a", "go a 1", "move a -4 0", "put c 1,1 #", "back c", "turn a 2", "go b 0")
        desk, heaps = Desk(), {}
        for line in lines * 3:
            word, name, *rest = line.split(" ", 2)
            heap = heaps.setdefault(name, [])
            if word == "back":
                heap.pop()
            elif word == "put":
                heap.append(read_picture(rest[0]))
            elif word == "go":
                heap.append(model_turns(LIFE, heap[-1], int(rest[0]))[-1])
            elif word == "turn":
                heap.append(model_turned(heap[-1], MODEL_TURNINGS[8][int(rest[0])]))
            else:
                heap.append(model_moved(heap[-1], [int(number) for number in rest[0].split()]))
            self.says(desk, (line, "ok"), ("names", " ".join(sorted(key for key in heaps if heaps[key]))))
            for key in heaps:
                if heaps[key]:
                    self.says(desk, (f"show {key}", show_picture(heaps[key][-1])))


class LargeTest(DeskCase):

    def test_more_than_a_thousand_cells(self):
        full = "0,0 " + "/".join(["#" * 40] * 40)
        self.assertLess(len("put a " + full), 2000)
        desk = desk_with("rule 8:1:012345678", "put a " + full, "put b 0,0 #")
        self.says(desk, ("show a", full), ("go b 60", "ok"), ("fate b 0", "on"), ("alike b b", "yes"), ("alike a b", "no"),
                  ("go a 60", "ok"), ("rule 8::", "ok"), ("fate a 60", "gone 1"), ("fate b 60", "gone 1"))
        self.spurns(desk, TooWide, "show b", "show a")
        self.says(desk, ("back a", "ok"), ("show a", full), ("back b", "ok"), ("show b", "0,0 #"))

    def test_a_replicator(self):
        # By this rule a picture stands eight times around its place after sixteen turns, if it is not wider than sixteen.
        desk = desk_with("rule 8:1357:1357", "put a 0,0 ##.#", "go a 16")
        self.says(desk, ("show a", "-16,-16 " + "/".join(
            [("##.#" + "." * 12) * 2 + "##.#"] + ["." * 36] * 15 + ["##.#" + "." * 28 + "##.#"] + ["." * 36] * 15
            + [("##.#" + "." * 12) * 2 + "##.#"])))
        self.says(desk, ("put b 0,0 ###", "ok"), ("alike a b", "no"), ("put c " + show_picture(BLINKER + [(9, 9)]), "ok"))
        self.says(desk, ("put d " + show_picture(GLIDER), "ok"), ("put e " + show_picture(BLOCK), "ok"), ("names", "a b c d e"))


if __name__ == "__main__":
    unittest.main()
