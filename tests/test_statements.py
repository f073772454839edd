"""Points 6, 7 and 8: statements, what they do with a row, and how a row is shown."""

import itertools
import unittest

from fillbehind.errors import NoNumber, NoRow, NoStatement
from fillbehind.statements import Affine, applied, is_statement, needs_input, needs_read, shown
from tests import strange

CHECKS = [(), ("missing",), ("same old",), ("same new",), ("missing", "same old"), ("missing", "same new"),
          ("same old", "same new"), ("missing", "same old", "same new")]
SETS = [("set", old, new, checks) for old in ("keep", "input", "read")
        for new in ("keep", "none", "now", "read", "copy") for checks in CHECKS]
PUTS = [("put", new, checks) for new in ("none", "now", "read", "copy") for checks in CHECKS]
INSERTS = [("insert", "none"), ("insert", "now")]
DELETES = [("delete", checks) for checks in CHECKS]
STATEMENTS = SETS + PUTS + INSERTS + DELETES
WORDS = ("set", "put", "insert", "delete", "keep", "input", "read", "none", "now", "copy",
         "missing", "same old", "same new", "x", "", None, 0, True, b"set", b"keep", ("keep",), ["keep"], ())
WRONG_CHECKS = [
    [], ["missing"], "", "missing", None, 0, {}, set(), {"missing"}, ("missing", "missing"), ("same old", "missing"),
    ("same new", "same old"), ("same new", "missing"), ("missing", "same new", "same old"), ("Missing",), ("",),
    ("same-old",), (None,), (("missing",),), ("missing", "same old", "same new", "missing"), ("missing", 0),
    ("missing", True), ([],), ({},), (b"missing",), ("keep",), ("read",), ("same",), ("missing ",),
]


def changed(statement):
    """What is almost a statement: a place replaced, left out, doubled, swapped; a list in its place."""
    yield list(statement)
    yield statement + ((),)
    yield statement + ("keep",)
    yield statement[::-1]
    yield (statement,)
    for at in range(len(statement)):
        yield statement[:at] + statement[at + 1:]
        yield statement[:at + 1] + statement[at:]
        for word in WORDS:
            yield statement[:at] + (word,) + statement[at + 1:]
        for value in strange.values():
            yield statement[:at] + (value,) + statement[at + 1:]
    if statement[0] != "insert":
        for checks in WRONG_CHECKS:
            yield statement[:-1] + (checks,)


def is_one(value):
    """Whether a value is one of the statements, with kinds compared too."""
    if type(value) is not tuple or not all(type(item) in (str, tuple) for item in value):
        return False
    if not all(type(item) is str for part in value if type(part) is tuple for item in part):
        return False
    return value in STATEMENTS


class TestIsStatement(unittest.TestCase):
    def test_there_are_162(self):
        self.assertEqual(len(set(STATEMENTS)), 162)
        for statement in STATEMENTS:
            self.assertIs(is_statement(statement), True, statement)

    def test_almost_statements(self):
        for statement in [SETS[0], SETS[7], SETS[41], SETS[-1], *PUTS[:9:4], PUTS[-1], *INSERTS, DELETES[0], DELETES[-1]]:
            for value in changed(statement):
                self.assertIs(is_statement(value), is_one(value), statement)

    def test_wrong_ones_by_name(self):
        for value in [
            ("set", "none", "keep", ()), ("set", "keep", "input", ()), ("set", "now", "keep", ()),
            ("set", "keep", "keep"), ("set", "keep", ()), ("put", "keep", ()), ("put", "now"), ("put", ()),
            ("insert", "read"), ("insert", "copy"), ("insert", "keep"), ("insert", "now", ()), ("insert",),
            ("delete",), ("delete", "missing"), ("delete", "now", ()), ("read",), (), ("read", ()), (("delete", ()),),
            ["delete", ()], ("delete", []), ("Set", "keep", "keep", ()), ("delete", (), ()),
        ]:
            self.assertIs(is_statement(value), False, value)

    def test_values_of_all_kinds(self):
        for value in strange.values():
            self.assertIs(is_statement(value), False)
            for call in (needs_read, needs_input):
                with self.assertRaises(NoStatement):
                    call(value)
                with self.assertRaises(NoStatement):
                    call(statement=value)
            with self.assertRaises(NoStatement):
                applied(value, 7, "x", "y")

    def test_by_name(self):
        self.assertIs(is_statement(value=("delete", ())), True)
        self.assertIs(needs_read(statement=("delete", ())), False)
        self.assertIs(needs_input(statement=("insert", "now")), True)


class TestNeeds(unittest.TestCase):
    def test_each_statement(self):
        for statement in STATEMENTS:
            words = list(statement[:-1]) + list(statement[-1]) if statement[0] != "insert" else list(statement)
            reads = any(word in ("read", "copy", "same old", "same new", "put") for word in words)
            self.assertIs(needs_read(statement), reads, statement)
            self.assertIs(needs_input(statement), statement[0] == "insert" or "input" in words, statement)

    def test_some(self):
        for statement, reads, takes in [
            (("set", "keep", "keep", ()), False, False), (("set", "keep", "now", ("missing",)), False, False),
            (("set", "input", "none", ()), False, True), (("set", "input", "copy", ()), True, True),
            (("set", "read", "keep", ()), True, False), (("set", "keep", "read", ()), True, False),
            (("put", "none", ()), True, False), (("insert", "none"), False, True), (("insert", "now"), False, True),
            (("delete", ()), False, False), (("delete", ("missing",)), False, False),
            (("delete", ("same old",)), True, False), (("delete", ("missing", "same new")), True, False),
            (("set", "input", "now", ("same old",)), True, True),
        ]:
            self.assertIs(needs_read(statement), reads, statement)
            self.assertIs(needs_input(statement), takes, statement)


def model(statement, row, value, seen):
    """What [7] tells, written a second time, case by case."""
    kind = statement[0]
    if kind == "insert":
        if row is not None:
            return (row, False)
        return ((value, None if statement[1] == "none" else value), True)
    checks = statement[-1]
    if row is None:
        if kind != "put" or checks:
            return (None, False)
    else:
        if "missing" in checks and row[1] is not None:
            return (row, False)
        if "same old" in checks and row[0] != seen[0]:
            return (row, False)
        if "same new" in checks and row[1] != seen[1]:
            return (row, False)
        if kind == "delete":
            return (None, True)
    if kind == "put":
        old, word = seen[0], statement[1]
    else:
        old = {"keep": row[0], "input": value, "read": seen and seen[0]}[statement[1]]
        word = statement[2]
    source = {"keep": row and row[1], "none": None, "now": old, "read": seen and seen[0], "copy": seen and seen[1]}[word]
    return ((old, source), True)


ROWS = [(old, source) for old in (0, 1, 2) for source in (None, 0, 1, 2)]


class TestApplied(unittest.TestCase):
    def test_examples(self):
        self.assertEqual(applied(("set", "input", "now", ()), (3, None), 8), ((8, 8), True))
        told = applied(("set", "keep", "read", ("same old",)), (8, None), None, (3, None))
        self.assertEqual(told, ((8, None), False))
        self.assertEqual(applied(("put", "now", ()), None, None, (3, None)), ((3, 3), True))

    def test_all_statements_with_small_numbers(self):
        for statement, row, seen in itertools.product(STATEMENTS, [None, *ROWS], ROWS):
            told = applied(statement, row, 5, seen)
            self.assertIs(type(told), tuple)
            self.assertIs(type(told[1]), bool)
            self.assertEqual(told, model(statement, row, 5, seen), (statement, row, seen))
            if told[1]:
                again = applied(statement, told[0], 5, seen)[0]
                self.assertEqual(again, told[0], (statement, row, seen))

    def test_each_word_by_hand(self):
        for statement, row, value, seen, told in [
            (("set", "keep", "keep", ()), (1, 2), None, None, ((1, 2), True)),
            (("set", "keep", "keep", ()), None, None, None, (None, False)),
            (("set", "input", "keep", ()), (1, 2), 9, None, ((9, 2), True)),
            (("set", "read", "keep", ()), (1, 2), None, (4, 5), ((4, 2), True)),
            (("set", "keep", "none", ()), (1, 2), None, None, ((1, None), True)),
            (("set", "keep", "now", ()), (1, 2), None, None, ((1, 1), True)),
            (("set", "input", "now", ()), (1, 2), 9, None, ((9, 9), True)),
            (("set", "read", "now", ()), (1, 2), None, (4, 5), ((4, 4), True)),
            (("set", "keep", "read", ()), (1, 2), None, (4, 5), ((1, 4), True)),
            (("set", "keep", "copy", ()), (1, 2), None, (4, 5), ((1, 5), True)),
            (("set", "keep", "copy", ()), (1, 2), None, (4, None), ((1, None), True)),
            (("put", "none", ()), None, None, (4, 5), ((4, None), True)),
            (("put", "now", ()), (1, 2), None, (4, 5), ((4, 4), True)),
            (("put", "read", ()), (1, 2), None, (4, 5), ((4, 4), True)),
            (("put", "copy", ()), None, None, (4, 5), ((4, 5), True)),
            (("put", "copy", ()), (1, 2), None, (4, None), ((4, None), True)),
            (("put", "now", ("missing",)), None, None, (4, 5), (None, False)),
            (("put", "now", ("same old",)), (4, 2), None, (4, 5), ((4, 4), True)),
            (("insert", "none"), None, 9, None, ((9, None), True)),
            (("insert", "now"), None, 9, None, ((9, 9), True)),
            (("insert", "now"), (1, 2), 9, None, ((1, 2), False)),
            (("delete", ()), (1, 2), None, None, (None, True)),
            (("delete", ()), None, None, None, (None, False)),
            (("delete", ("missing",)), (1, 0), None, None, ((1, 0), False)),
            (("delete", ("missing",)), (1, None), None, None, (None, True)),
            (("delete", ("same old",)), (1, 2), None, (1, None), (None, True)),
            (("delete", ("same old",)), (1, 2), None, (2, 2), ((1, 2), False)),
            (("delete", ("same new",)), (1, None), None, (2, None), (None, True)),
            (("delete", ("same new",)), (1, 0), None, (1, None), ((1, 0), False)),
            (("delete", ("same new",)), (1, None), None, (1, 0), ((1, None), False)),
        ]:
            self.assertEqual(applied(statement, row, value, seen), told, statement)
            self.assertEqual(applied(statement=statement, row=row, value=value, seen=seen), told, statement)

    def test_great_numbers(self):
        great = strange.GREAT
        told = applied(("set", "input", "copy", ("same old", "same new")), (great, -great), -1, (great, -great))
        self.assertEqual(told, ((-1, -great), True))

    def test_what_is_not_needed_is_not_looked_at(self):
        for value in strange.values():
            self.assertEqual(applied(("set", "keep", "now", ("missing",)), (1, None), value, value), ((1, 1), True))
            self.assertEqual(applied(("delete", ()), (1, 2), value, value), (None, True))
            self.assertEqual(applied(("insert", "now"), None, 7, value), ((7, 7), True))
            self.assertEqual(applied(("put", "now", ()), None, value, (1, 2)), ((1, 1), True))

    def fails(self, part, *given):
        with self.assertRaises(NoRow) as caught:
            applied(*given)
        self.assertEqual(caught.exception.part, part)

    def test_rows_that_are_none(self):
        wrong = [value for value in strange.values() if value is not None]
        wrong += [(1, 2, 3), (1,), [1, 2], (None, None), (None, 1), (True, None), (1, False), ("1", None), (1, "1"),
                  (1, (2,)), (b"", 1)]
        for value in wrong:
            self.fails("row", ("set", "keep", "keep", ()), value)
            self.fails("row", ("set", "input", "read", ()), value, "x", "y")
            self.fails("seen", ("put", "now", ()), None, None, value)
            self.fails("seen", ("put", "now", ("missing",)), None, None, value)
        self.fails("seen", ("put", "now", ()), (1, 2))
        self.fails("seen", ("delete", ("same new",)), None, None, None)

    def test_inputs_that_are_none(self):
        for value in strange.without(int):
            self.fails("value", ("insert", "none"), None, value)
            self.fails("value", ("insert", "none"), (1, 2), value)
            self.fails("value", ("set", "input", "read", ()), (1, 2), value, "y")
            self.fails("value", ("set", "input", "keep", ("missing",)), (1, 2), value)
            self.fails("value", ("set", "input", "keep", ()), None, value)

    def test_errors_in_their_order(self):
        with self.assertRaises(NoStatement):
            applied(("set", "input", "read", []), 7, "x", "y")
        self.fails("row", ("set", "input", "read", ()), 7, "x", "y")
        self.fails("value", ("set", "input", "read", ()), None, "x", "y")
        self.fails("seen", ("set", "input", "read", ()), None, 1, "y")


class TestAffine(unittest.TestCase):
    def test_values(self):
        for scale, shift, value, told in [
            (2, 1, 5, 11), (-3, 0, 5, -15), (1, -7, -5, -12), (strange.GREAT, 1, 2, 2 * strange.GREAT + 1),
            (-1, strange.GREAT, -strange.GREAT, 2 * strange.GREAT), (7, 3, 0, 3),
        ]:
            affine = Affine(scale, shift)
            self.assertEqual(affine(value), told)
            self.assertEqual(affine(value=value), told)
            self.assertEqual((affine.scale, affine.shift), (scale, shift))
        self.assertEqual(Affine(shift=1, scale=2)(5), 11)

    def fails(self, part, call, *given):
        with self.assertRaises(NoNumber) as caught:
            call(*given)
        self.assertEqual(caught.exception.part, part)

    def test_errors(self):
        self.fails("scale", Affine, 0, 1)
        self.fails("scale", Affine, 0, "x")
        for value in strange.without(int):
            self.fails("scale", Affine, value, 1)
            self.fails("scale", Affine, value, value)
            self.fails("shift", Affine, 1, value)
            self.fails("value", Affine(2, 1), value)

    def test_equal(self):
        self.assertEqual(Affine(2, 1), Affine(2, 1))
        self.assertNotEqual(Affine(2, 1), Affine(2, 2))
        self.assertNotEqual(Affine(2, 1), Affine(3, 1))
        self.assertIs(Affine(2, 1) != Affine(2, 1), False)
        for value in strange.values():
            self.assertIs(Affine(5, 1) == value, False)
            self.assertIs(value == Affine(5, 1), False)


class TestShown(unittest.TestCase):
    def test_rows(self):
        self.assertEqual(shown((3, 5), Affine(2, 1)), (3, 11))
        self.assertEqual(shown((3, None), Affine(2, 1)), (3, None))
        self.assertIs(shown(None, Affine(2, 1)), None)
        self.assertEqual(shown((-3, -5), Affine(-2, 1)), (-3, 11))
        self.assertEqual(shown((strange.GREAT, 0), Affine(1, -strange.GREAT)), (strange.GREAT, -strange.GREAT))
        self.assertEqual(shown(row=(3, 0), convert=Affine(2, 1)), (3, 1))

    def test_a_function(self):
        self.assertEqual(shown((3, 5), lambda value: value * value), (3, 25))
        self.assertEqual(shown((3, 0), lambda value: value - 9), (3, -9))

    def test_no_row(self):
        for value in strange.values():
            if value is not None:
                with self.assertRaises(NoRow) as caught:
                    shown(value, Affine(2, 1))
                self.assertEqual(caught.exception.part, "row")
        for value in [(1, 2, 3), (1,), [1, 2], (None, 1), (True, None), (1, False)]:
            with self.assertRaises(NoRow):
                shown(value, Affine(2, 1))
