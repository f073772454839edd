"""Rollouts for the tests: those of the document, and many that are made by a seed."""

import random

from fillbehind.rollouts import Fill, Phase, Rollout, Writer

READ = ("read",)
KEEP = ("set", "keep", "keep", ())
TAKE = ("set", "input", "keep", ())
BOTH = ("set", "input", "now", ())
COPY = ("set", "keep", "read", ())
NOW = ("set", "keep", "now", ())
CHECKS = [(), (), (), ("missing",), ("same old",), ("same new",), ("missing", "same old"), ("same old", "same new")]
PROMISES = ("right", "mild", "kept", "once")


def example(statement=TAKE, fill=COPY):
    """The rollout r of [23], or one with another statement of its writer or its Fill."""
    phase = Phase("one", writers=("old",), fills=True, promises=("mild",))
    return Rollout([Writer("old", statement)], Fill(fill, batch=2), [phase])


def one(*steps, fill=COPY, promises=(), hands=1, workers=1, name="w", writers=(), **more):
    """A rollout with one phase and one writer, or further ones."""
    writers = [Writer(name, *steps), *writers]
    phase = Phase("one", writers=[writer.name for writer in writers], fills=True, promises=promises)
    return Rollout(writers, Fill(fill, **more), [phase], hands=hands, workers=workers)


def wide(many, promises=("mild",)):
    """A rollout with some hundreds of states or more, that holds."""
    writers = [Writer("a", BOTH), Writer("b", READ, ("set", "read", "now", ())), Writer("c", ("insert", "now"))]
    phases = [Phase(name, writers=("a", "b", "c"), fills=True, promises=promises) for name in ("one", "two", "three", "four")]
    back = [(at, 0) for at in range(1, many)]
    return Rollout(writers, Fill(NOW, falls=True, again=True), phases[:many], back=back, workers=2)


def statement(chance, reads):
    """A statement; one that needs a read only if there is one ahead."""
    checks = chance.choice(CHECKS) if reads else chance.choice([(), (), ("missing",)])
    new = ["none", "now", "keep"] + ["read", "copy"] * reads
    kind = chance.choice(["set", "set", "insert", "delete"] + ["put"] * reads)
    if kind == "set":
        return ("set", chance.choice(["keep", "input", "input"] + ["read"] * reads), chance.choice(new), checks)
    if kind == "put":
        return ("put", chance.choice(["none", "now", "read", "copy"]), checks)
    return ("insert", chance.choice(["none", "now"])) if kind == "insert" else ("delete", checks)


def writer(chance, name):
    many = chance.choice([1, 1, 2, 2, 3])
    steps = []
    for at in range(many):
        reads = READ in steps
        steps.append(READ if at < many - 1 and chance.random() < 0.7 else statement(chance, reads))
    return Writer(name, *steps)


def fill(chance):
    new = chance.choice(["now", "read", "read", "copy", "none"])
    checks = chance.choice(CHECKS)
    told = ("put", new, checks) if chance.random() < 0.3 else ("set", chance.choice(["keep", "keep", "read"]), new, checks)
    flags = {name: chance.random() < 0.4 for name in ("lock", "only_missing", "falls", "again")}
    return Fill(told, batch=chance.choice([1, 2, 2, 3]), save=chance.choice(["last", "first"]), **flags)


def rollout(seed, small=False):
    """A rollout that is made from a seed alone."""
    chance = random.Random(seed)
    names = ["a", "b", "c"][:chance.choice([1, 2] if small else [1, 2, 2, 3])]
    writers = [writer(chance, name) for name in names]
    many = chance.choice([1, 2] if small else [1, 2, 3])
    phases = [
        Phase(
            name, writers=[name for name in names if chance.random() < 0.8], fills=chance.random() < 0.8,
            promises=[word for word in PROMISES if chance.random() < 0.35],
            waits=[word for word in ("done", "drained") if chance.random() < 0.4])
        for name in ["one", "two", "three"][:many]
    ]
    back = [(at, to) for at in range(many) for to in range(at) if chance.random() < 0.5]
    return Rollout(
        writers, fill(chance), phases, back=back, workers=chance.choice([1, 1, 2]),
        hands=chance.choice([0, 1, 1] if small else [0, 1, 1, 2]))
