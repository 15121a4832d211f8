"""Numbers, cells, pictures and rules as texts."""

from cellships.cells import box_of, is_picture
from cellships.errors import NoText, TooWide

FIGURES = "0123456789"
MOST_FIGURES = 60
MOST_SIDE = 40
KINDS = ("4", "6", "8")


def read_number(text):
    """The whole number that a text writes."""
    figures = text.removeprefix("-")
    if not 1 <= len(figures) <= MOST_FIGURES or not all([sign in FIGURES for sign in figures]):
        raise NoText("a whole number has one to sixty figures")
    number = int(text)
    if str(number) != text:
        raise NoText("a whole number has no 0 ahead, and 0 no sign")
    return number


def show_cell(cell):
    """The text of a cell."""
    return f"{cell[0]},{cell[1]}"


def read_cell(text):
    """The cell that a text writes."""
    words = text.split(",")
    if len(words) != 2:
        raise NoText("a cell is two whole numbers with a comma between")
    return (read_number(words[0]), read_number(words[1]))


def show_picture(picture):
    """The text of a picture, refused where its box is too large."""
    box = box_of(picture)
    if box is None:
        return "-"
    left, top, wide, high = box
    if wide > MOST_SIDE or high > MOST_SIDE:
        raise TooWide("a picture is written up to 40 columns and 40 rows")
    living = {cell: True for cell in picture}
    rows = ["".join(["#" if (left + x, top + y) in living else "." for x in range(wide)]) for y in range(high)]
    return f"{left},{top} " + "/".join(rows)


def is_row(wide, text):
    """Whether a text writes a row of so many cells."""
    return len(text) == wide and all([sign in "#." for sign in text])


def read_picture(text):
    """The picture that a text writes."""
    if not isinstance(text, str):
        raise NoText("a picture is written as a text")
    if text == "-":
        return []
    words = text.split(" ")
    if len(words) != 2:
        raise NoText("a picture is a cell and rows, with a blank between")
    left, top = read_cell(words[0])
    rows = words[1].split("/")
    wide, high = len(rows[0]), len(rows)
    if wide > MOST_SIDE or high > MOST_SIDE or not all([is_row(wide, row) for row in rows]):
        raise NoText("rows are of one length, at most 40 signs in at most 40 rows")
    cells = [(left + x, top + y) for x in range(wide) for y in range(high) if rows[y][x] == "#"]
    if not is_picture(cells) or box_of(cells) != (left, top, wide, high):
        raise NoText("the rows are those of the picture's box, its cells within sixty figures")
    return cells


def show_counts(counts):
    """The text of a rule's counts."""
    return "".join([str(count) for count in counts])


def show_rule(rule):
    """The text of a rule."""
    kind, born, stay = rule
    return f"{kind}:{show_counts(born)}:{show_counts(stay)}"


def read_counts(kind, text):
    """The counts, rising, that a text writes by one figure each."""
    if not all([sign in FIGURES for sign in text]):
        raise NoText("counts are figures")
    counts = [int(sign) for sign in text]
    if counts != sorted(set(counts)) or not all([count <= kind for count in counts]):
        raise NoText("counts rise, up to the kind")
    return tuple(counts)


def read_rule(text):
    """The rule that a text writes."""
    if not isinstance(text, str):
        raise NoText("a rule is written as a text")
    words = text.split(":")
    if len(words) != 3 or words[0] not in KINDS:
        raise NoText("a rule is a kind and two rows of counts, a colon between")
    kind = int(words[0])
    return (kind, read_counts(kind, words[1]), read_counts(kind, words[2]))
