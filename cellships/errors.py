"""The refusals: one class for each, all under CellError."""


class CellError(ValueError):
    """Any refusal."""


class NoRule(CellError):
    """A rule can't be made of this."""


class Loud(CellError):
    """By this rule cells are born out of nothing, so the plane can't be asked."""


class NoSize(CellError):
    """This is no size of what is asked for."""


class Folded(CellError):
    """Two cells of a picture become one on a ring."""


class NoNumber(CellError):
    """Nothing has this number."""


class NoRest(CellError):
    """This picture doesn't rest in the box."""


class NoThing(CellError):
    """This picture doesn't come again."""


class Outside(CellError):
    """A cell of the picture is outside of the box."""


class TooWide(CellError):
    """The picture's box is too large to be written."""


class NoText(CellError):
    """This text doesn't write what is asked for."""


class NoName(CellError):
    """This is no name, or none by which a picture stands."""


class NoLine(CellError):
    """This is no line that a desk knows."""
