"""Statements, what they do with a row, and how a row is shown."""

from fillbehind.errors import NoNumber, NoRow, NoStatement
from fillbehind.kinds import are_words, is_integer, is_word

CHECKS = ("missing", "same old", "same new")
# The words that may stand behind the first one, place by place, up to the checks.
PLACES = {
    "set": (("keep", "input", "read"), ("keep", "none", "now", "read", "copy")),
    "put": (("none", "now", "read", "copy"),),
    "insert": (("none", "now"),),
    "delete": (),
}
READING = ("put", "read", "copy", "same old", "same new")
TAKING = ("insert", "input")


def is_row(value):
    """Tell whether a value is a row; None is none."""
    if not isinstance(value, tuple) or len(value) != 2 or not is_integer(value[0]):
        return False
    return value[1] is None or is_integer(value[1])


def is_statement(value):
    """Tell whether a value is a statement."""
    if not isinstance(value, tuple) or len(value) < 2 or not isinstance(value[0], str):
        return False
    if value[0] not in PLACES:
        return False
    places = PLACES[value[0]]
    rest = value[1:]
    if value[0] != "insert":
        if not isinstance(rest[-1], tuple) or not are_words(rest[-1], CHECKS):
            return False
        rest = rest[:-1]
    return len(rest) == len(places) and all([is_word(word, words) for word, words in zip(rest, places)])


def checks_of(statement):
    """The checks of a statement; an insert has no place for any."""
    if statement[0] == "insert":
        return ()
    return statement[-1]


def with_check(statement, word):
    """The statement with a further check, in the order of the checks."""
    checks = [check for check in CHECKS if check == word or check in checks_of(statement)]
    return statement[:-1] + (tuple(checks),)


def has_word(statement, words):
    """Tell whether a statement contains one of these words, among its checks or ahead of them."""
    if not is_statement(statement):
        raise NoStatement()
    return any([word in words for word in statement + checks_of(statement)])


def needs_read(statement):
    """Tell whether a statement needs a row that was read."""
    return has_word(statement, READING)


def needs_input(statement):
    """Tell whether a statement needs an input."""
    return has_word(statement, TAKING)


def applied(statement, row, value=None, seen=None):
    """What a statement does with a row: the row behind it, and whether it takes effect."""
    takes_input, reads = needs_input(statement), needs_read(statement)
    if row is not None and not is_row(row):
        raise NoRow("row")
    if takes_input and not is_integer(value):
        raise NoRow("value")
    if reads and not is_row(seen):
        raise NoRow("seen")
    if not takes_effect(statement, row, seen):
        return (row, False)
    return (row_behind(statement, row, value, seen), True)


def takes_effect(statement, row, seen):
    """Tell whether a statement takes effect on a row."""
    if row is None:
        return statement[0] == "insert" or (statement[0] == "put" and statement[-1] == ())
    if statement[0] == "insert":
        return False
    return not any([fails(check, row, seen) for check in checks_of(statement)])


def fails(check, row, seen):
    """Tell whether a check fails on a row that is there."""
    if check == "missing":
        return row[1] is not None
    if check == "same old":
        return row[0] != seen[0]
    return row[1] != seen[1]


def row_behind(statement, row, value, seen):
    """The row behind a statement that takes effect."""
    if statement[0] == "delete":
        return None
    old = old_behind(statement, row, value, seen)
    return (old, source_behind(statement, row, old, seen))


def old_behind(statement, row, value, seen):
    """The old of the row behind a set, put or insert that takes effect."""
    if statement[0] == "insert" or statement[1] == "input":
        return value
    if statement[0] == "put" or statement[1] == "read":
        return seen[0]
    return row[0]


def source_behind(statement, row, old, seen):
    """The source of the row behind a set, put or insert that takes effect, from its old there."""
    word = statement[2] if statement[0] == "set" else statement[1]
    if word == "none":
        return None
    if word == "now":
        return old
    if word == "read":
        return seen[0]
    if word == "copy":
        return seen[1]
    return row[1]


class Affine:
    """A converter that is called with an integer and returns scale * value + shift."""

    def __init__(self, scale, shift):
        if not is_integer(scale) or scale == 0:
            raise NoNumber("scale")
        if not is_integer(shift):
            raise NoNumber("shift")
        self.scale = scale
        self.shift = shift

    def __call__(self, value):
        if not is_integer(value):
            raise NoNumber("value")
        return self.scale * value + self.shift

    def __eq__(self, other):
        return isinstance(other, Affine) and self.scale == other.scale and self.shift == other.shift


def shown(row, convert):
    """The row with the converted value in the place of its source; None for None."""
    if row is None:
        return None
    if not is_row(row):
        raise NoRow("row")
    if row[1] is None:
        return (row[0], None)
    return (row[0], convert(row[1]))
