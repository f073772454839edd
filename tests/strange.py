"""Values of every kind that a caller may pass, for the tests."""

from fillbehind.desks import Desk
from fillbehind.errors import NoRow
from fillbehind.rollouts import Fill, Phase, Rollout, Writer
from fillbehind.runs import Run
from fillbehind.statements import Affine

DEPTH = 900
GREAT = 10 ** 3999 + 7


def deep(kind):
    value = 0
    for _ in range(DEPTH):
        value = {1: value} if kind == "dict" else [value] if kind == "list" else (value,)
    return value


def small_rollout():
    return Rollout([Writer("w", ("insert", "none"))], Fill(("put", "copy", ("same old",))), [Phase("p")])


def package_objects():
    return [
        Affine(2, 1),
        Writer("w", ("insert", "none")),
        Fill(("put", "copy", ("same old",))),
        Phase("p"),
        small_rollout(),
        Run(small_rollout(), {1: 2}),
        Desk(small_rollout()),
        NoRow("row"),
    ]


def values():
    """New values of all kinds but float and complex; none of the tuples is a statement, a step, a row or an option."""
    return [
        None, True, False, 0, 1, -1, 2, GREAT, -GREAT,
        "", "set", "old", "A", "\n", "\ud800", "a" * 100000,
        b"", b"set", bytearray(b"set"), memoryview(b"set"),
        [], [0], ["set", "keep", "keep", ()], (), (0,), ((),), ([],), ({},),
        {}, {"set": 1}, {1: 2, 3: 4}, set(), {1, 2}, frozenset(), frozenset([1]),
        range(0), range(2), slice(1, 2), ..., NotImplemented,
        len, int, str, ValueError, lambda: 1, object(), iter([]), (n for n in ()), "x".join,
        deep("list"), deep("tuple"), deep("dict"), [deep("tuple"), deep("dict")], (deep("list"), None),
        *package_objects(),
    ]


def without(*kinds):
    """The values that are of none of these kinds; bool counts as one of its own."""
    return [value for value in values() if type(value) not in kinds]


def without_names():
    """The values that are no names of writers or phases."""
    return [value for value in values() if not isinstance(value, str) or value not in ("set", "old")]
