"""Trees of tries as texts (points 2 and 36)."""

import itertools
import re
import unittest

from cellships.errors import NoText
from cellships.seeks import seek
from cellships.treetexts import read_tree, show_tree
from cellships.trees import is_tree
from tests.helper import FAR, LIFE, MOST, ODD_THINGS, Case

FOUND = ("found",)
CELL = r"(0|-?[1-9][0-9]{0,59}),(0|-?[1-9][0-9]{0,59})"
NO_TEXTS = ODD_THINGS + (0, 1, [], (), ["+"], ("+",), FOUND, ("cut", (0, 0)), b"+", {"+": "+"}, [["+"]])


def model_tree(text):
    """The tree that a text writes, read from its end with a heap of trees, or None."""
    heap = []
    for word in reversed(text.split(" ")):
        found = re.fullmatch("([!?])" + CELL, word)
        cell = (int(found[2]), int(found[3])) if found else None
        if word == "+":
            heap.append((FOUND, 0))
        elif found and found[1] == "!":
            heap.append((("cut", cell), 0))
        elif found and len(heap) > 1:
            (dead, one), (alive, other) = heap.pop(), heap.pop()
            heap.append((("try", cell, dead, alive), 1 + max(one, other)))
        else:
            return None
    return heap[0][0] if len(heap) == 1 and heap[0][1] <= 9 else None


def nest(many, way, leaf=FOUND):
    """So many tries one within another, in the dead trees, the living ones, both, or by turns."""
    tree = leaf
    for step in range(many):
        beside = tree if way == "both" else FOUND
        dead = way == "dead" or way == "turns" and step % 2
        tree = ("try", (step, -step), tree, beside) if dead else ("try", (step, -step), beside, tree)
    return tree


def written(tree):
    """The text of a tree, however deep."""
    words, heap = [], [tree]
    while heap:
        now = heap.pop()
        if now[0] == "found":
            words.append("+")
        else:
            words.append(f"{'!' if now[0] == 'cut' else '?'}{now[1][0]},{now[1][1]}")
            heap += [now[3], now[2]] if now[0] == "try" else []
    return " ".join(words)


def bent_words(text):
    """The text with words left out, put in, doubled, exchanged, and with blanks too many."""
    words = text.split(" ")
    others = ("+", "!0,0", "?0,0", "", "!", "?", "-", "++", "!0", "?0,0,0", "x0,0", "!00,0", "?-0,1", "!1,+2", "0,0",
              "+0,0", "#", "!0,0!", "?" + "1" * 61 + ",0", "!0,-" + "9" * 61, "!" + "9" * 60 + ",0", "?0,0\n")
    for at in range(len(words) + 1):
        for other in others:
            yield " ".join(words[:at] + [other] + words[at:])
            if at < len(words):
                yield " ".join(words[:at] + [other] + words[at + 1:])
        if at < len(words):
            yield " ".join(words[:at] + words[at + 1:])
            yield " ".join(words[:at + 1] + words[at:])
        if at + 1 < len(words):
            yield " ".join(words[:at] + [words[at + 1], words[at]] + words[at + 2:])
    for other in (" " + text, text + " ", "  " + text, text + "\n", "\n" + text, text.replace(" ", "  "),
                  text.replace(" ", ""), text.replace(" ", "\n"), text.replace(" ", "\t"), text + text,
                  text.replace("+", "-"), text.upper() + "A", text.replace(",", " "), text.replace(",", ", ")):
        yield other


class TreeTextsTest(Case):

    def reads(self, text):
        """The text is read as the model reads it, or refused; whether it is read."""
        wanted = model_tree(text)
        if wanted is None:
            self.refuses(NoText, read_tree, text)
            return False
        told = read_tree(text)
        self.assertEqual(told, wanted)
        self.assertIs(is_tree(told), True)
        self.assertEqual(show_tree(told), text)
        return True

    def test_by_hand(self):
        for tree, text in ((FOUND, "+"), (("cut", (0, 0)), "!0,0"), (("cut", (-3, 12)), "!-3,12"),
                           (("try", (0, 0), FOUND, ("cut", (1, 0))), "?0,0 + !1,0"),
                           (("try", (0, 0), ("cut", (1, 0)), FOUND), "?0,0 !1,0 +"),
                           (("try", (0, 0), ("try", (0, 1), FOUND, FOUND), ("cut", (2, -2))), "?0,0 ?0,1 + + !2,-2"),
                           (("try", (0, 0), FOUND, ("try", (0, 1), FOUND, ("cut", (2, -2)))), "?0,0 + ?0,1 + !2,-2"),
                           (("cut", (MOST, -MOST)), f"!{MOST},-{MOST}"), (("cut", (FAR, 0)), f"!{FAR},0")):
            self.tells(text, show_tree, tree)
            self.tells(tree, read_tree, text)

    def test_what_seek_tells(self):
        for told, size, many, move in ((LIFE, (2, 2), 1, (0, 0)), (LIFE, (3, 3), 4, (1, 1)), (LIFE, (1, 9), 2, (0, 0)),
                                       ((4, (), (0,)), (3, 3), 1, (0, 0)), ((6, (2,), (3, 4)), (3, 2), 2, (FAR, 0))):
            tree = seek(told, size, many, move)[1]
            text = show_tree(tree)
            self.assertEqual(text, written(tree))
            self.assertEqual(read_tree(text), tree)

    def test_nine_tries_and_ten(self):
        for way in ("dead", "alive", "both", "turns"):
            for leaf in (FOUND, ("cut", (5, -7))):
                for many in range(10):
                    tree = nest(many, way, leaf)
                    self.assertEqual(show_tree(tree), written(tree))
                    self.assertEqual(read_tree(written(tree)), tree)
                for many in (10, 11):
                    self.refuses(NoText, read_tree, written(nest(many, way, leaf)))

    def test_some_hundred_tries(self):
        for many in (50, 200, 300):
            for way in ("dead", "alive", "turns"):
                self.refuses(NoText, read_tree, written(nest(many, way)))
        for text in ("?0,0 " * 300, "?0,0 " * 300 + "+", "?0,0 + " * 250 + "+", ("?0,0 " * 200 + "+ " * 201).strip(),
                     "+ " * 900 + "+", "? " * 900, "?0,0 " * 9, ("?0,0 " * 9 + "+ " * 9).strip()):
            self.refuses(NoText, read_tree, text)
        self.reads(("?0,0 " * 9 + "+ " * 10).strip())

    def test_what_is_not_written_so(self):
        for text in ("", " ", "+ ", " +", "+ +", "++", "!", "?", "!0", "!0,", "!,0", "!,", "!0,0,0", "! 0,0", "!0, 0", "0,0",
                     "!0,0 ", " !0,0", "!0,0 +", "+ !0,0", "?0,0", "?0,0 +", "?0,0 + + +", "?0,0  + +", "?0,0 +  +",
                     " ?0,0 + +", "?0,0 + + ", "?0,0 + +\n", "\n?0,0 + +", "?0,0\n+ +", "?0,0\t+\t+", "?0,0 ++", "?0,0++",
                     "? + +", "?0,0 ? +", "?-0,0 + +", "?0,00 + +", "?+1,0 + +", "?01,0 + +", "!-0,0", "!0,-0", "!1.0,0",
                     "cut", "found", "try", "-", "#", "!a,b", "!0;0", "+0,0", "!!0,0", "??0,0 + +", "!0,0!", "!?0,0",
                     "!" + "1" * 61 + ",0", "!0," + "-" + "1" * 61, "?" + "9" * 61 + ",0 + +", "!\u0661,0", "0,0 #",
                     "?0,0 + + ?0,0 + +", "+ ?0,0 +", "?0,0 !0,0 !0", "(+)", "?0,0,+,+"):
            self.assertFalse(self.reads(text), text)

    def test_bent_texts(self):
        for text in ("+", "!3,-4", "?0,0 + !1,0", "?0,0 ?0,1 + + !2,-2", "?-1,0 !1,1 ?2,2 ?3,3 + !0,0 +"):
            held = [self.reads(other) for other in bent_words(text)]
            self.assertIn(False, held)
            self.assertIn(True, held)

    def test_all_rows_of_few_words(self):
        held = 0
        for many in range(1, 7):
            for words in itertools.product(("+", "!0,0", "?1,-2", "", "?"), repeat=many):
                text = " ".join(words)
                wanted = model_tree(text)
                try:
                    self.assertEqual(read_tree(text), wanted)
                    held += 1
                except NoText:
                    self.assertIsNone(wanted, text)
        self.assertEqual(held, 2 + 4 + 16)

    def test_what_is_no_text(self):
        for thing in NO_TEXTS:
            self.refuses(NoText, read_tree, thing)


if __name__ == "__main__":
    unittest.main()
