"""Trees of tries as texts."""

from cellships.errors import NoText
from cellships.texts import read_cell, show_cell
from cellships.trees import MOST_TRIES


def show_tree(tree):
    """The text of a tree of tries."""
    if tree[0] == "found":
        return "+"
    if tree[0] == "cut":
        return "!" + show_cell(tree[1])
    word, cell, dead, alive = tree
    return f"?{show_cell(cell)} {show_tree(dead)} {show_tree(alive)}"


def read_from(words, at, tries):
    """The tree whose first word stands at a place, and the place behind it, as a tuple."""
    if at == len(words):
        raise NoText("behind a try two trees stand")
    sign, rest = words[at][:1], words[at][1:]
    if words[at] == "+":
        return (("found",), at + 1)
    if sign == "!":
        return (("cut", read_cell(rest)), at + 1)
    if sign != "?" or tries == 0:
        raise NoText("a tree is of cuts, founds and tries, nine at most one within another")
    cell = read_cell(rest)
    dead, behind = read_from(words, at + 1, tries - 1)
    alive, end = read_from(words, behind, tries - 1)
    return (("try", cell, dead, alive), end)


def read_tree(text):
    """The tree of tries that a text writes."""
    if not isinstance(text, str):
        raise NoText("a tree is written as a text")
    words = text.split(" ")
    tree, end = read_from(words, 0, MOST_TRIES)
    if end != len(words):
        raise NoText("behind a tree nothing stands")
    return tree
