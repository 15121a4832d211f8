"""A desk: it is told lines, keeps a rule and pictures by names, and answers with texts."""

from cellships.cells import moved
from cellships.errors import NoLine, NoName, NoNumber, NoText
from cellships.fates import fate
from cellships.fathers import father
from cellships.forms import are_alike, turned, turnings
from cellships.meets import meets
from cellships.parts import parts
from cellships.planes import after
from cellships.rests import rest_at
from cellships.rules import refuse_loud
from cellships.seeks import seek
from cellships.texts import read_number, read_picture, read_rule, show_cell, show_picture

LETTERS = "abcdefghijklmnopqrstuvwxyz"
LONGEST_NAME = 8
FIRST_RULE = (8, (3,), (2, 3))

# What stands behind each first word; a NEW is a name by which no picture needs to stand.
SHAPES = {
    "rule": ("RULE",),
    "put": ("NEW", "PICTURE"),
    "go": ("NAME", "0 TO 60"),
    "turn": ("NAME", "0 TO 99"),
    "move": ("NAME", "NUMBER", "NUMBER"),
    "back": ("NAME",),
    "show": ("NAME",),
    "names": (),
    "fate": ("NAME", "0 TO 60"),
    "alike": ("NAME", "NAME"),
    "parts": ("NAME", "0 TO 30"),
    "meet": ("NAME", "NAME"),
    "seek": ("NUMBER", "NUMBER", "1 TO 4", "NUMBER", "NUMBER"),
    "father": ("NAME", "NUMBER", "NUMBER"),
    "rests": ("NUMBER", "NUMBER", "NUMBER"),
}
BOUNDS = {"0 TO 60": (0, 60), "0 TO 99": (0, 99), "0 TO 30": (0, 30), "1 TO 4": (1, 4)}


def words_of(line):
    """The words of a line, refused where there is no such line."""
    if not isinstance(line, str):
        raise NoLine("a line is a text")
    words = line.split(" ")
    if words[0] == "put":
        # A picture is written with a blank in it.
        words = line.split(" ", 2)
    if words[0] not in SHAPES or len(words) != len(SHAPES[words[0]]) + 1:
        raise NoLine("a desk knows no such line")
    return words


def read_name(desk, shape, word):
    """The name that a word is, refused where a picture is needed by it and none stands."""
    if not 1 <= len(word) <= LONGEST_NAME or not all([sign in LETTERS for sign in word]):
        raise NoName("a name is one to eight small letters")
    if shape == "NAME" and word not in desk.pictures:
        raise NoName("no picture stands by this name")
    return word


def read_bounded(shape, word):
    """The whole number that a word writes, refused where it is out of bounds."""
    number = read_number(word)
    if shape in BOUNDS:
        least, most = BOUNDS[shape]
        if not least <= number <= most:
            raise NoText("this number is out of bounds")
    return number


def read_word(desk, shape, word):
    """What a word tells, by the shape that it must have."""
    if shape == "RULE":
        return read_rule(word)
    if shape == "PICTURE":
        return read_picture(word)
    if shape in ("NAME", "NEW"):
        return read_name(desk, shape, word)
    return read_bounded(shape, word)


def picture_by(desk, name):
    """The picture that stands by a name."""
    return desk.pictures[name][-1]


def keep(desk, name, picture):
    """Let a picture stand by a name, as a deed that can be taken back."""
    desk.pictures.setdefault(name, []).append(picture)
    return "ok"


def show_all(pictures):
    """The texts of pictures, in a row."""
    return "; ".join([show_picture(picture) for picture in pictures])


def say_rule(desk, things):
    """Take up a rule."""
    refuse_loud(things[0])
    desk.rule = things[0]
    return "ok"


def say_put(desk, things):
    """Put a picture."""
    name, picture = things
    return keep(desk, name, picture)


def say_go(desk, things):
    """Let a picture go some turns."""
    name, many = things
    return keep(desk, name, after(desk.rule, picture_by(desk, name), many))


def say_turn(desk, things):
    """Turn a picture by the turning at a place."""
    name, place = things
    known = turnings(desk.rule[0])
    if place >= len(known):
        raise NoNumber("the kind has no turning at this place")
    return keep(desk, name, turned(picture_by(desk, name), known[place]))


def say_move(desk, things):
    """Move a picture."""
    name, dx, dy = things
    return keep(desk, name, moved(picture_by(desk, name), (dx, dy)))


def say_back(desk, things):
    """Take the last deed of a name back."""
    name = things[0]
    kept = desk.pictures[name]
    kept.pop()
    if not kept:
        desk.pictures.pop(name)
    return "ok"


def say_show(desk, things):
    """The picture of a name."""
    return show_picture(picture_by(desk, things[0]))


def say_names(desk, things):
    """All names by which pictures stand."""
    return " ".join(sorted(desk.pictures))


def say_fate(desk, things):
    """The fate of a picture."""
    name, most = things
    told = fate(desk.rule, picture_by(desk, name), most)
    if told[0] == "on":
        return "on"
    if told[0] == "gone":
        return f"gone {told[1]}"
    return f"comes {told[1]} {told[2]} {show_cell(told[3])}"


def say_alike(desk, things):
    """Whether two pictures are alike."""
    one, other = things
    return "yes" if are_alike(desk.rule[0], picture_by(desk, one), picture_by(desk, other)) else "no"


def say_parts(desk, things):
    """The parts of a picture."""
    name, many = things
    pictures, joins = parts(desk.rule, picture_by(desk, name), many)
    return show_all(pictures)


def say_meet(desk, things):
    """The turn at which two things meet, or that they stay apart."""
    one, other = things
    told = meets(desk.rule, picture_by(desk, one), picture_by(desk, other))
    return f"meet {told[1]}" if told[0] == "meet" else "apart"


def say_seek(desk, things):
    """The forms of all things in a box."""
    wide, high, many, dx, dy = things
    forms, tree = seek(desk.rule, (wide, high), many, (dx, dy))
    return show_all(forms) if forms else "none"


def say_father(desk, things):
    """A father of a picture, or that there is none."""
    name, wide, high = things
    word, told = father(desk.rule, (wide, high), picture_by(desk, name))
    return "none" if word == "none" else f"father {show_picture(told)}"


def say_rests(desk, things):
    """The picture of a number that rests in a box."""
    wide, high, number = things
    return show_picture(rest_at(desk.rule, (wide, high), number))


DEEDS = {
    "rule": say_rule, "put": say_put, "go": say_go, "turn": say_turn, "move": say_move, "back": say_back,
    "show": say_show, "names": say_names, "fate": say_fate, "alike": say_alike, "parts": say_parts,
    "meet": say_meet, "seek": say_seek, "father": say_father, "rests": say_rests,
}


class Desk:
    """A desk with a rule, and pictures by names."""

    def __init__(self):
        self.rule = FIRST_RULE
        # By each name all its pictures, the one that stands last; each but it is one to come back to.
        self.pictures = {}

    def say(self, line):
        """The answer to a line."""
        words = words_of(line)
        first = words[0]
        things = [read_word(self, shape, word) for shape, word in zip(SHAPES[first], words[1:])]
        deed = DEEDS[first]
        return deed(self, things)
