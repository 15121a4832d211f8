"""What the program promises as a whole (points 2 and 3), sentence by sentence, over several functions at once."""

import inspect
import itertools
import unittest

from cellships import errors
from cellships.cells import at_nought, moved, put_together
from cellships.desk import Desk
from cellships.fates import bears_out, fate, glide, turns, word_of
from cellships.fathers import father, holds_father, holds_none
from cellships.forms import are_alike, form, turned, turnings
from cellships.meets import first_touch, holds_apart, meets
from cellships.parts import holds_parts, parts
from cellships.planes import after, next_turn
from cellships.ranges import first_unlike, is_between, range_of
from cellships.rests import how_many_rest, rest_at, rest_number
from cellships.ringfates import ring_fate
from cellships.rings import enough, ring_after, ring_moved, wrapped
from cellships.rows import picture_of, rows_of
from cellships.seeks import seek
from cellships.speeds import growth, height, shows_too_fast, too_fast
from cellships.texts import read_picture, read_rule, show_picture, show_rule
from cellships.treetexts import read_tree, show_tree
from cellships.trees import holds_tree, is_tree
from tests.helper import BLINKER, BLOCK, FAR, GLIDER, KINDS, LIFE, Case, boxed, put, rows_of_counts

RULES = (
    LIFE, (8, (2, 4, 5), (8,)), (8, (3, 5, 8), (1, 2, 4)), (8, (3, 6), (2, 3)), (6, (2, 4, 5), (2, 4, 5)),
    (6, (2,), (3, 4)), (6, (), (0, 1)), (4, (2, 3), (0, 1, 3)), (4, (1, 3), (1, 3)), (4, (), (0,)),
)
PICTURES = tuple(boxed(3, 3)[17::41]) + (BLOCK, BLINKER, GLIDER, [(0, 0), (0, 3), (1, 1), (1, 2)])
WAYS = tuple(itertools.product(range(-4, 5), repeat=2))


def things_found():
    """Rules, turns and moves with the forms that are sought and found for them."""
    for told in RULES:
        for size in ((3, 3), (2, 4)):
            for many, move in ((1, (0, 0)), (1, (1, 0)), (2, (0, 0)), (3, (1, 1)), (4, (1, 1))):
                forms, tree = seek(told, size, many, move)
                yield told, size, many, move, forms, tree


class FatesTest(Case):
    """A picture's fate, as it is told, is what its turns show, and neither any sooner."""

    def test_fates_are_what_the_turns_show(self):
        for told in RULES:
            for cells in PICTURES:
                answer = fate(told, cells, 12)
                rows = turns(told, cells, 12)
                laid = [at_nought(row) for row in rows]
                if answer[0] == "gone":
                    self.assertEqual(rows.index([]), answer[1])
                    last = answer[1]
                elif answer[0] == "comes":
                    word, turn, span, move = answer
                    self.assertEqual(moved(rows[turn], move), rows[turn + span])
                    last = turn + span
                else:
                    last = 12
                seen = laid[:last] if answer[0] != "on" else laid
                self.assertTrue(all(seen))
                self.assertEqual(len({tuple(row) for row in seen}), len(seen))
                self.assertIs(bears_out(told, rows[:last + 1], answer), True)

    def test_words_and_fates_of_what_is_sought(self):
        words = set()
        for told, size, many, move, forms, tree in things_found():
            for cells in forms:
                word, turn, span, told_move = answer = fate(told, cells, 4)
                self.assertEqual((word, turn, many % span), ("comes", 0, 0))
                # The form may be turned, so its move is the sought one turned, and only so long as the round is.
                whole = tuple(number * (many // span) for number in told_move)
                around = [turned([move], turning)[0] for turning in turnings(told[0])]
                self.assertIn(whole, around)
                words.add(word_of(answer))
                self.assertEqual(word_of(answer) == "goes", move != (0, 0))
                steps, turning, way = glide(told, cells, many)
                self.assertEqual(span % steps, 0)
                self.assertEqual(moved(turned(cells, turning), way), after(told, cells, steps))
        self.assertEqual(words, {"rests", "again", "goes"})


class AlikeTest(Case):
    """Worlds that are turned and mirrored by the neighbours' turnings, or moved, turn alike; so do large rings."""

    def test_turned_and_moved_worlds(self):
        for told in RULES:
            for cells in PICTURES:
                wanted = after(told, cells, 3)
                for turning in turnings(told[0]):
                    other = moved(turned(cells, turning), (FAR, -7))
                    self.assertEqual(after(told, other, 3), moved(turned(wanted, turning), (FAR, -7)))
                    self.assertTrue(are_alike(told[0], cells, other))
                    self.assertEqual(fate(told, other, 5)[:3], fate(told, cells, 5)[:3])

    def test_rings_that_are_large_enough(self):
        for told in RULES:
            for cells in PICTURES:
                for many in (0, 1, 4):
                    size = enough(cells, many)
                    for wider in (size, (size[0] + 1, size[1] + 3)):
                        start = wrapped(wider, cells)
                        for turn in range(many + 1):
                            wanted = wrapped(wider, after(told, cells, turn))
                            self.assertEqual(ring_after(told, wider, start, turn), wanted)

    def test_fates_on_rings_that_are_large_enough(self):
        for told, cells, span in ((LIFE, GLIDER, 4), (LIFE, BLINKER, 2), (LIFE, BLOCK, 1)):
            size = enough(cells, span)
            word, turn, told_span, move = fate(told, cells, span)
            answer = ring_fate(told, size, wrapped(size, cells), span)
            self.assertEqual(answer[:3], (word, turn, told_span))
            rows = [ring_after(told, size, wrapped(size, cells), many) for many in (turn, turn + span)]
            self.assertEqual(ring_moved(size, rows[0], answer[3]), rows[1])
            self.assertEqual(ring_moved(size, rows[0], move), rows[1])


class SpeedsTest(Case):
    """No thing goes faster than told by the rule, and a way to look along shows it."""

    def test_no_turn_grows_more(self):
        for told in RULES:
            for cells in PICTURES:
                later = next_turn(told, cells)
                for way in WAYS[::3]:
                    if later:
                        self.assertLessEqual(height(later, way), height(cells, way) + growth(told, way))

    def test_no_way_shows_what_comes_again_too_fast(self):
        found = 0
        for told in RULES:
            for cells in PICTURES:
                answer = fate(told, cells, 6)
                if answer[0] == "comes":
                    span, move = answer[2:]
                    self.assertIsNone(too_fast(told, span, move))
                    self.assertFalse(any(shows_too_fast(told, span, move, way) for way in WAYS))
                    found += move != (0, 0)
        self.assertGreater(found, 0)

    def test_nothing_is_found_that_is_too_fast(self):
        for told in RULES:
            for many, move in ((1, (1, 0)), (1, (1, 1)), (2, (2, 0)), (2, (1, 1)), (3, (0, 3)), (4, (1, 2)), (1, (0, FAR))):
                way = too_fast(told, many, move)
                if way is not None:
                    self.assertTrue(shows_too_fast(told, many, move, way))
                    self.assertEqual(seek(told, (3, 3), many, move)[0], [])


class BoxesTest(Case):
    """All things in a box are told, each once, with a tree; pictures that rest are numbered without gap."""

    def test_all_things_are_told_each_once(self):
        for told, size, many, move, forms, tree in things_found():
            things = [cells for cells in boxed(*size)[1:] if after(told, cells, many) == moved(cells, move)]
            self.assertEqual([list(cells) for cells in sorted({tuple(form(told[0], cells)) for cells in things})], forms)
            for one, other in itertools.combinations(forms, 2):
                self.assertFalse(are_alike(told[0], one, other))
            self.assertTrue(is_tree(tree))
            self.assertTrue(holds_tree(told, size, many, move, tree, forms))
            self.assertEqual(read_tree(show_tree(tree)), tree)
            if forms:
                self.assertFalse(holds_tree(told, size, many, move, tree, forms[1:]))

    def test_what_rests_is_numbered_without_gap(self):
        for told in RULES:
            for size in ((2, 3), (3, 2), (3, 3), (1, 7)):
                many = how_many_rest(told, size)
                pictures = [rest_at(told, size, number) for number in range(many)]
                wanted = [cells for cells in boxed(*size) if next_turn(told, cells) == cells]
                self.assertEqual(sorted(pictures), sorted(wanted))
                self.assertEqual([rest_number(told, size, cells) for cells in pictures], list(range(many)))
                rows = [rows_of(size, cells) for cells in pictures]
                self.assertEqual(rows, sorted(rows))
                self.assertEqual([picture_of(row) for row in rows], pictures)

    def test_what_rests_is_what_is_sought_for_one_turn(self):
        for told in RULES:
            pictures = [rest_at(told, (3, 3), number) for number in range(1, how_many_rest(told, (3, 3)))]
            forms = seek(told, (3, 3), 1, (0, 0))[0]
            self.assertEqual({tuple(form(told[0], cells)) for cells in pictures}, {tuple(cells) for cells in forms})
            for cells in pictures:
                self.assertEqual(word_of(fate(told, cells, 1)), "rests")

    def test_high_boxes(self):
        for told in RULES:
            many = how_many_rest(told, (4, 60))
            for number in sorted({0, many // 3, many - 1}):
                cells = rest_at(told, (4, 60), number)
                self.assertEqual(next_turn(told, cells), cells)
                self.assertEqual(rest_number(told, (4, 60), cells), number)


class PartsTest(Case):
    """A picture falls into the told parts and no smaller ones, and all its turns are those of its parts."""

    def test_parts_put_together_turn_as_the_picture(self):
        for told in RULES:
            for one, other in itertools.product(PICTURES[::3], repeat=2):
                cells = put(one, moved(other, (5, 4)))
                for many in (0, 1, 6):
                    pictures, joins = parts(told, cells, many)
                    self.assertTrue(holds_parts(told, cells, many, pictures, joins))
                    for turn in range(many + 1):
                        together = []
                        for part in pictures:
                            together = put_together(together, after(told, part, turn))
                        self.assertEqual(together, after(told, cells, turn))

    def test_parts_never_touch_and_no_part_falls_apart(self):
        for told in RULES:
            for one, other in itertools.product(PICTURES[::4], repeat=2):
                cells = put(one, moved(other, (-5, 3)))
                pictures = parts(told, cells, 5)[0]
                for part, beside in itertools.combinations(pictures, 2):
                    self.assertIsNone(first_touch(told, part, beside, 4))
                for part in pictures:
                    self.assertEqual(parts(told, part, 5)[0], [part])


class MeetingsTest(Case):
    """Of two things it is told at which turn they meet, or a paper that they never do."""

    def test_meetings(self):
        words = set()
        for told in RULES:
            things = [cells for cells in PICTURES if fate(told, cells, 6)[:2] == ("comes", 0)]
            for one, other in itertools.product(things[:5], repeat=2):
                for place in ((0, 4), (6, 6), (-9, 3), (12, -12)):
                    laid = moved(other, place)
                    answer = meets(told, one, laid)
                    words.add(answer[0])
                    if answer[0] == "apart":
                        self.assertTrue(holds_apart(told, one, laid, *answer[1:]))
                        self.assertIsNone(first_touch(told, one, laid, 60))
                    elif answer[1] <= 60:
                        self.assertEqual(first_touch(told, one, laid, 60), answer[1])
                    if answer[0] == "apart":
                        # So they are unlike parts, and turn together as each turns alone.
                        whole = put(one, laid)
                        self.assertEqual(after(told, whole, 20), put(after(told, one, 20), after(told, laid, 20)))
        self.assertEqual(words, {"meet", "apart"})


class FathersTest(Case):
    """A father is told, or a paper that no world whatever becomes such a picture."""

    def test_a_father_told_becomes_the_picture(self):
        words = set()
        for told in RULES + ((8, (8,), ()), (4, (4,), ())):
            for size in ((2, 2), (3, 1), (1, 4)):
                for cells in boxed(*size):
                    word, paper = father(told, size, cells)
                    words.add(word)
                    if word == "father":
                        self.assertTrue(holds_father(told, size, cells, paper))
                        shown = [cell for cell in next_turn(told, paper) if 0 <= cell[0] < size[0] and 0 <= cell[1] < size[1]]
                        self.assertEqual(shown, cells)
                    else:
                        self.assertTrue(holds_none(told, size, cells, paper))
        self.assertEqual(words, {"father", "none"})

    def test_what_has_become_of_a_world_has_a_father(self):
        for told in RULES:
            for cells in PICTURES[::4]:
                turn = next_turn(told, cells)
                for left, top in ((0, 0), (-1, 1), (1, -1)):
                    shown = [(x - left, y - top) for x, y in turn if 0 <= x - left < 3 and 0 <= y - top < 3]
                    self.assertEqual(father(told, (3, 3), shown)[0], "father")

    def test_pictures_that_rest_are_their_own_fathers(self):
        for told in RULES:
            for number in range(how_many_rest(told, (3, 3))):
                cells = rest_at(told, (3, 3), number)
                self.assertTrue(holds_father(told, (3, 3), cells, cells))


class RangesTest(Case):
    """Just the rules between the told ones show the same turns."""

    def test_rules_between(self):
        for told in ((4, (2, 3), (0, 1, 3)), (4, (1, 3), (1, 3)), (4, (), (0,))):
            for cells in PICTURES[::4]:
                between = range_of(told, cells, 4)
                for born, stay in itertools.product(rows_of_counts(1, 4), rows_of_counts(0, 4)):
                    other = (4, born, stay)
                    same = turns(other, cells, 4) == turns(told, cells, 4)
                    self.assertIs(is_between(between, other), same)
                    self.assertIs(first_unlike(told, other, cells, 4) is None, same)


class TextsTest(Case):
    """What a desk answers is what the functions tell."""

    def test_texts_there_and_back(self):
        for told in RULES:
            self.assertEqual(read_rule(show_rule(told)), told)
        for cells in PICTURES:
            self.assertEqual(read_picture(show_picture(cells)), cells)

    def test_a_desk_tells_what_the_functions_tell(self):
        for told in RULES:
            desk = Desk()
            desk.say("rule " + show_rule(told))
            for cells in PICTURES[:-1:3]:
                desk.say("put a " + show_picture(cells))
                answer = fate(told, cells, 20)
                self.assertEqual(desk.say("fate a 20").split(" ")[0], answer[0])
                self.assertEqual(desk.say("parts a 4"), "; ".join(show_picture(part) for part in parts(told, cells, 4)[0]))
                self.assertEqual(desk.say("father a 3 3"), self.father_text(told, cells))
                desk.say("put b " + show_picture(moved(cells, (9, 9))))
                self.assertEqual(desk.say("alike a b"), "yes")
                if answer[:2] == ("comes", 0) and answer[2] <= 6:
                    told_meeting = meets(told, cells, moved(cells, (9, 9)))
                    wanted = f"meet {told_meeting[1]}" if told_meeting[0] == "meet" else "apart"
                    self.assertEqual(desk.say("meet a b"), wanted)
                desk.say("go a 7")
                self.assertEqual(read_picture(desk.say("show a")), after(told, cells, 7))
                desk.say("back a")
                self.assertEqual(read_picture(desk.say("show a")), cells)

    def father_text(self, told, cells):
        word, paper = father(told, (3, 3), cells)
        return "none" if word == "none" else "father " + show_picture(paper)


class RefusalClassesTest(Case):
    """No refusal's class stands under another one's but under the base."""

    def test_classes(self):
        found = [value for name, value in inspect.getmembers(errors, inspect.isclass)]
        self.assertEqual(sorted(value.__name__ for value in found),
                         ["CellError", "Folded", "Loud", "NoLine", "NoName", "NoNumber", "NoRest", "NoRule", "NoSize",
                          "NoText", "NoThing", "Outside", "TooWide"])
        for one, other in itertools.permutations(found, 2):
            self.assertIs(issubclass(one, other), other is errors.CellError)


class InterfaceTest(Case):
    """Every name of the interface is there, and takes as many things as it is told to."""

    NAMES = {
        "cells": {"is_cell": 1, "is_picture": 1, "picture": 1, "moved": 2, "put_together": 2, "box_of": 1, "at_nought": 1},
        "forms": {"offsets": 1, "turnings": 1, "turned": 2, "form": 2, "are_alike": 3},
        "rules": {"rule": 3, "is_quiet": 1, "comes": 3},
        "planes": {"counts": 2, "next_turn": 2, "after": 3},
        "rings": {"wrapped": 2, "ring_next": 3, "ring_after": 4, "ring_moved": 3, "enough": 2},
        "fates": {"turns": 3, "fate": 3, "bears_out": 3, "word_of": 1, "glide": 3},
        "ringfates": {"ring_fate": 4},
        "speeds": {"height": 2, "growth": 2, "too_fast": 3, "shows_too_fast": 4, "grower": 2},
        "maybes": {"maybe_comes": 4, "maybe_next": 3, "maybe_after": 4},
        "trees": {"is_tree": 1, "holds_tree": 6},
        "seeks": {"seek": 4},
        "rows": {"rows_of": 2, "picture_of": 1, "middle": 5},
        "rests": {"how_many_rest": 2, "rest_at": 3, "rest_number": 3},
        "parts": {"hangs_on": 2, "parts": 3, "holds_parts": 5},
        "meets": {"first_touch": 4, "meets": 3, "holds_apart": 5},
        "fathers": {"father": 3, "holds_father": 4, "holds_none": 4},
        "ranges": {"range_of": 3, "is_between": 2, "first_unlike": 4},
        "texts": {"show_picture": 1, "read_picture": 1, "show_rule": 1, "read_rule": 1},
        "treetexts": {"show_tree": 1, "read_tree": 1},
        "desk": {"Desk": 0},
    }

    def test_names(self):
        for module, names in self.NAMES.items():
            held = __import__("cellships." + module, fromlist=list(names))
            for name, many in names.items():
                self.assertEqual(len(inspect.signature(getattr(held, name)).parameters), many, (module, name))
        self.assertEqual(list(inspect.signature(Desk.say).parameters), ["self", "line"])

    def test_kinds(self):
        for kind in KINDS:
            self.assertEqual(len(turnings(kind)), 12 if kind == 6 else 8)


if __name__ == "__main__":
    unittest.main()
