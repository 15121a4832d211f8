"""Pictures that rest in a box, numbered in the order of their rows."""

from cellships.cells import is_pair
from cellships.errors import NoNumber, NoRest, NoSize
from cellships.planes import next_turn
from cellships.rows import centres, picture_of, rows_below, rows_of
from cellships.rules import refuse_loud

MOST_COLUMNS = 4
MOST_ROWS = 60


def is_rest_size(thing):
    """Whether anything is the size of a box whose resting pictures are numbered."""
    return is_pair(thing) and 1 <= thing[0] <= MOST_COLUMNS and 1 <= thing[1] <= MOST_ROWS


def refuse_no_rests(rule, size):
    """Refuse a loud rule, then what is no size of a box whose resting pictures are numbered."""
    refuse_loud(rule)
    if not is_rest_size(size):
        raise NoSize("a box's size is a tuple of 1 to 4 columns and 1 to 60 rows")


def followers_of(rule, wide):
    """For each pair of rows that can be come to, from two empty ones on, the rows that may follow, rising."""
    amid = centres(rule)
    # Two dead columns on either side, as cells may be born beside the box, too.
    free = [False, False] + [True] * wide + [False, False]
    followers = {}
    waiting = [(0, 0)]
    while waiting:
        pair = waiting.pop()
        if pair not in followers:
            above, row = pair[0] << 2, pair[1] << 2
            followers[pair] = [below >> 2 for below in rows_below(amid, above, row, row, free)]
            waiting.extend([(pair[1], below) for below in followers[pair]])
    return followers


def may_end(followers, pair):
    """Whether nothing but empty rows may follow a pair of rows."""
    return 0 in followers[pair] and 0 in followers[(pair[1], 0)]


def ways_to_end(followers, high):
    """A list that has for 0 to high rows left a dict: behind each pair, how many ways there are to choose them."""
    ways = [{pair: 1 if may_end(followers, pair) else 0 for pair in followers}]
    for left in range(high):
        fewer = ways[-1]
        ways.append({pair: sum([fewer[(pair[1], below)] for below in followers[pair]]) for pair in followers})
    return ways


def how_many_rest(rule, size):
    """How many pictures rest in a box."""
    refuse_no_rests(rule, size)
    # Above the box there are empty rows, so all begins with a pair of them.
    return ways_to_end(followers_of(rule, size[0]), size[1])[-1][(0, 0)]


def row_and_rest(rows, fewer, above, number):
    """Which one of the rows below another one a number leads to, and its number among those with that row."""
    for row in rows:
        many = fewer[(above, row)]
        if number < many:
            return (row, number)
        number -= many
    raise NoNumber("so many pictures don't rest in this box")


def rest_at(rule, size, number):
    """The picture with this number of those that rest in a box."""
    refuse_no_rests(rule, size)
    wide, high = size
    followers = followers_of(rule, wide)
    ways = ways_to_end(followers, high)
    if number < 0:
        raise NoNumber("numbers begin at 0")
    rows = []
    pair = (0, 0)
    for left in range(high - 1, -1, -1):
        row, number = row_and_rest(followers[pair], ways[left], pair[1], number)
        rows.append(row)
        pair = (pair[1], row)
    return picture_of(rows)


def refuse_no_rest(rule, size, picture):
    """Refuse a picture that has a cell outside of the box, or doesn't rest."""
    wide, high = size
    if not all([0 <= x < wide and 0 <= y < high for x, y in picture]):
        raise NoRest("a cell is outside of the box")
    if next_turn(rule, picture) != picture:
        raise NoRest("this picture doesn't rest")


def rest_number(rule, size, picture):
    """The number of a picture that rests in a box."""
    refuse_no_rests(rule, size)
    refuse_no_rest(rule, size, picture)
    wide, high = size
    followers = followers_of(rule, wide)
    ways = ways_to_end(followers, high)
    number = 0
    pair = (0, 0)
    for at, row in enumerate(rows_of(size, picture)):
        fewer = ways[high - 1 - at]
        number += sum([fewer[(pair[1], below)] for below in followers[pair] if below < row])
        pair = (pair[1], row)
    return number
