"""Points 10 to 13: writers, fills, phases and rollouts."""

import unittest

from fillbehind.errors import NoFill, NoPhase, NoRollout, NoWriter
from fillbehind.rollouts import Fill, Phase, Rollout, Writer
from tests import strange

READ = ("read",)
KEEP = ("set", "keep", "keep", ())
TAKE = ("set", "input", "keep", ())
COPY = ("set", "keep", "read", ())
PUT = ("put", "now", ())
NAMES = ["a", "z", "old", "abcdefghijkl"]
NO_NAMES = ["", "abcdefghijklm", "Old", "old1", "o d", "o_d", "old\n", " old", "\u00e4", "\u0430", "\u017f", "\ud800",
            "a" * 100000, b"old", ["o", "l", "d"], ("old",)]


class Case(unittest.TestCase):
    def fails(self, error, fields, call, *given, **named):
        with self.assertRaises(error) as caught:
            call(*given, **named)
        found = caught.exception
        self.assertIs(type(found), error)
        self.assertEqual(vars(found), fields)
        for value in vars(found).values():
            self.assertIsNot(type(value), bool)

    def differs_from_all_else(self, *objects):
        for at, one in enumerate(objects):
            for place, other in enumerate(objects):
                self.assertIs(one == other, at == place)
                self.assertIs(one != other, at != place)
            for value in strange.values():
                self.assertIs(one == value, False)
                self.assertIs(value == one, False)


class TestWriter(Case):
    def fails_at(self, part, index, *given):
        self.fails(NoWriter, {"part": part, "index": index}, Writer, *given)

    def test_attributes(self):
        for name in NAMES:
            self.assertEqual(Writer(name, KEEP).name, name)
        writer = Writer("old", READ, TAKE, COPY)
        self.assertEqual((writer.name, writer.steps), ("old", (READ, TAKE, COPY)))
        self.assertIs(type(writer.steps), tuple)
        for steps, takes in [((KEEP,), False), ((TAKE,), True), ((("insert", "now"),), True), ((READ, COPY), False),
                             ((READ, PUT), False), ((TAKE, KEEP), True), ((KEEP, KEEP, ("insert", "none")), True),
                             ((READ, READ, ("delete", ("same old",))), False), ((("delete", ()),), False)]:
            self.assertIs(Writer("w", *steps).needs_input, takes, steps)
            self.assertEqual(Writer("w", *steps).steps, steps)

    def test_steps_that_fit(self):
        for steps in [(KEEP, READ, COPY), (READ, KEEP, COPY), (READ, READ, COPY), (KEEP, KEEP, KEEP), (READ, KEEP),
                      (TAKE, TAKE), (READ, COPY, PUT), (("insert", "now"), ("delete", ("missing",)))]:
            self.assertEqual(Writer("w", *steps).steps, steps)

    def test_name(self):
        for name in NO_NAMES + strange.without_names():
            self.fails_at("name", -1, name, KEEP)
            self.fails_at("name", -1, name)
            self.fails_at("name", -1, name, 7, 8)
        self.fails(NoWriter, {"part": "name", "index": -1}, Writer, name="X")
        self.fails(NoWriter, {"part": "steps", "index": -1}, Writer, name="x")

    def test_number_of_steps(self):
        self.fails_at("steps", -1, "w")
        self.fails_at("steps", -1, "w", KEEP, KEEP, KEEP, KEEP)
        self.fails_at("steps", -1, "w", 1, 2, 3, 4)

    def test_steps_that_do_not_fit(self):
        for steps, at in [
            ((READ,), 0), ((COPY,), 0), ((PUT,), 0), ((("delete", ("same new",)),), 0), ((COPY, READ), 0),
            ((KEEP, READ), 1), ((READ, READ), 1), ((READ, COPY, READ), 2), ((KEEP, COPY, KEEP), 1), ((COPY, READ, KEEP), 0),
            ((KEEP, KEEP, COPY), 2), ((READ, 7, 8), 1), ((READ, 7, READ), 1), ((READ, KEEP, READ), 2), ((7, READ), 0),
            ((["read"], KEEP), 0), ((("read", ()), KEEP), 0), ((("Read",), KEEP), 0), (("read", KEEP), 0),
            (((b"read",), KEEP), 0), ((KEEP, list(KEEP)), 1), ((READ, ("set", "keep", "read")), 1),
        ]:
            self.fails_at("steps", at, "w", *steps)
        for value in strange.values():
            self.fails_at("steps", 0, "w", value)
            self.fails_at("steps", 0, "w", value, KEEP)
            self.fails_at("steps", 0, "w", (value,), KEEP)
            self.fails_at("steps", 1, "w", KEEP, value, 7)
            self.fails_at("steps", 2, "w", READ, COPY, value)

    def test_example(self):
        self.fails_at("steps", 0, "old", COPY)

    def test_equal(self):
        self.assertEqual(Writer("w", READ, COPY), Writer("w", READ, COPY))
        self.differs_from_all_else(Writer("w", READ, COPY), Writer("v", READ, COPY), Writer("w", READ, PUT),
                                   Writer("w", READ, READ, COPY), Writer("w", KEEP))


class TestFill(Case):
    def fails_at(self, part, *given, **named):
        self.fails(NoFill, {"part": part}, Fill, *given, **named)

    def test_defaults(self):
        fill = Fill(COPY)
        self.assertEqual(vars(fill), {"statement": COPY, "batch": 1, "save": "last", "lock": False,
                                      "only_missing": False, "falls": False, "again": False})
        for name in ("lock", "only_missing", "falls", "again"):
            self.assertIs(getattr(fill, name), False)

    def test_attributes(self):
        given = {"statement": PUT, "batch": 100, "save": "first", "lock": True, "only_missing": True,
                 "falls": True, "again": True}
        self.assertEqual(vars(Fill(**given)), given)
        for name in ("lock", "only_missing", "falls", "again"):
            fill = Fill(COPY, **{name: True})
            self.assertEqual({part for part, value in vars(fill).items() if value is True}, {name})
        with self.assertRaises(TypeError):
            Fill(COPY, 2)

    def test_statements(self):
        for statement in [("put", "copy", ("missing", "same old", "same new")), ("put", "none", ()), KEEP, COPY,
                          ("set", "read", "now", ("same old",)), ("set", "keep", "none", ())]:
            self.assertEqual(Fill(statement).statement, statement)
        for value in [TAKE, ("set", "input", "read", ()), ("insert", "now"), ("insert", "none"), ("delete", ()), READ,
                      ("delete", ("missing",)), list(COPY), ("set", "keep", "read", []), ("put", "keep", ()),
                      *strange.values()]:
            self.fails_at("statement", value)
            self.fails_at("statement", value, batch=0, save=1, lock=1)

    def test_batch(self):
        for batch in (1, 2, 99, 100):
            self.assertEqual(Fill(COPY, batch=batch).batch, batch)
        for batch in [0, -1, 101, *[value for value in strange.values() if type(value) is not int or value not in (1, 2)]]:
            self.fails_at("batch", COPY, batch=batch)
            self.fails_at("batch", COPY, batch=batch, save="x", again=0)

    def test_save(self):
        for save in ["Last", "", "last ", "firs", "done", b"last", ("last",), *strange.values()]:
            self.fails_at("save", COPY, save=save)
            self.fails_at("save", COPY, save=save, lock=0)

    def test_flags(self):
        names = ["lock", "only_missing", "falls", "again"]
        for at, name in enumerate(names):
            for value in [value for value in strange.values() if type(value) is not bool]:
                self.fails_at(name, COPY, **{name: value})
                self.fails_at(name, COPY, **{later: value for later in reversed(names[at:])})

    def test_equal(self):
        self.assertEqual(Fill(COPY), Fill(COPY, batch=1, save="last", lock=False))
        self.differs_from_all_else(
            Fill(COPY), Fill(PUT), Fill(COPY, batch=2), Fill(COPY, save="first"), Fill(COPY, lock=True),
            Fill(COPY, only_missing=True), Fill(COPY, falls=True), Fill(COPY, again=True))


class TestPhase(Case):
    def fails_at(self, part, *given, **named):
        self.fails(NoPhase, {"part": part}, Phase, *given, **named)

    def test_defaults_and_attributes(self):
        self.assertEqual(vars(Phase("one")), {"name": "one", "writers": (), "fills": False, "promises": (), "waits": ()})
        self.assertIs(Phase("one").fills, False)
        given = {"writers": ["b", "a"], "fills": True, "promises": ["right", "mild", "kept", "once"],
                 "waits": ["done", "drained"]}
        told = {"name": "one", "writers": ("b", "a"), "fills": True, "promises": ("right", "mild", "kept", "once"),
                "waits": ("done", "drained")}
        self.assertEqual(vars(Phase("one", **given)), told)
        self.assertEqual(vars(Phase(name="one", **given)), told)
        with self.assertRaises(TypeError):
            Phase("one", ())

    def test_lists_that_are_changed_later(self):
        given = {"writers": ["b", "a"], "promises": ["right"], "waits": ["done"]}
        phase = Phase("one", **given)
        for value in given.values():
            value.append("x")
        self.assertEqual((phase.writers, phase.promises, phase.waits), (("b", "a"), ("right",), ("done",)))
        given = ["b", "a"]
        Phase("one", writers=given)
        self.assertEqual(given, ["b", "a"])

    def test_name(self):
        for name in NAMES:
            self.assertEqual(Phase(name).name, name)
        for name in NO_NAMES:
            self.fails_at("name", name)
            self.fails_at("name", name, writers=7, fills=1, promises=7, waits=7)
        for value in strange.without_names():
            self.fails_at("name", value)

    def test_writers(self):
        for writers in [(), [], ("a",), ["a", "b", "c", "d", "e", "f"], ("z", "a")]:
            self.assertEqual(Phase("p", writers=writers).writers, tuple(writers))
        for writers in [["a", "a"], ("a", "b", "a"), ["A"], [""], ["a", 1], [["a"]], [("a",)], ["a", None], "a", "",
                        {"a": 1}, {"a"}, range(0), iter(["a"]), [Writer("a", KEEP)]]:
            self.fails_at("writers", "p", writers=writers)
            self.fails_at("writers", "p", writers=writers, fills=0, promises=7, waits=7)
        for value in strange.values():
            if not (isinstance(value, (list, tuple)) and len(value) == 0):
                self.fails_at("writers", "p", writers=value)
        for value in strange.without_names():
            self.fails_at("writers", "p", writers=["a", value])

    def test_fills(self):
        for value in [value for value in strange.values() if type(value) is not bool]:
            self.fails_at("fills", "p", fills=value)
            self.fails_at("fills", "p", fills=value, promises=7, waits=7)

    def test_promises(self):
        words = ("right", "mild", "kept", "once")
        for bits in range(16):
            some = tuple(word for at, word in enumerate(words) if bits >> at & 1)
            self.assertEqual(Phase("p", promises=some).promises, some)
            self.assertEqual(Phase("p", promises=list(some)).promises, some)
            if len(some) > 1:
                self.fails_at("promises", "p", promises=some[::-1])
        for value in [("mild", "right"), ["once", "kept"], ("right", "kept", "mild"), ("mild", "mild"), ("done",), ("",),
                      ("Mild",), "mild", "", {"mild": 1}, {"mild"}, iter([]), ("mild", 0), ("mild", None), (b"mild",)]:
            self.fails_at("promises", "p", promises=value)
            self.fails_at("promises", "p", promises=value, waits=7)
        for value in strange.values():
            if not (isinstance(value, (list, tuple)) and len(value) == 0):
                self.fails_at("promises", "p", promises=value)
            self.fails_at("promises", "p", promises=["right", value])

    def test_waits(self):
        for some in [(), ("done",), ("drained",), ("done", "drained")]:
            self.assertEqual(Phase("p", waits=some).waits, some)
            self.assertEqual(Phase("p", waits=list(some)).waits, some)
        for value in [("drained", "done"), ("done", "done"), ("drained", "drained"), ("right",), ("Done",), "done", "",
                      {"done": 1}, iter([]), ("done", 1), ("done", "drained", "done")]:
            self.fails_at("waits", "p", waits=value)
        for value in strange.values():
            if not (isinstance(value, (list, tuple)) and len(value) == 0):
                self.fails_at("waits", "p", waits=value)
            self.fails_at("waits", "p", waits=(value,))

    def test_equal(self):
        self.assertEqual(Phase("p", writers=["a"], waits=["done"]), Phase("p", writers=("a",), waits=("done",)))
        self.differs_from_all_else(
            Phase("one"), Phase("two"), Phase("one", writers=("a",)), Phase("one", writers=("a", "b")),
            Phase("one", writers=("b", "a")), Phase("one", fills=True), Phase("one", promises=("mild",)),
            Phase("one", waits=("done",)))


WRITERS = [Writer(name, KEEP) for name in ("a", "b", "c", "d", "e")]
FILL = Fill(COPY)
PHASES = [Phase(name) for name in ("one", "two", "three", "four", "five", "six", "seven")]


class TestRollout(Case):
    def fails_at(self, part, index, *given, **named):
        self.fails(NoRollout, {"part": part, "index": index}, Rollout, *given, **named)

    def test_defaults_and_attributes(self):
        self.assertEqual(vars(Rollout([WRITERS[0]], FILL, [PHASES[0]])), {
            "writers": (WRITERS[0],), "fill": FILL, "phases": (PHASES[0],), "workers": 1, "hands": 1, "back": (),
            "counts": False, "keeps": False})
        told = {"writers": tuple(WRITERS[:4]), "fill": FILL, "phases": tuple(PHASES[:6]), "workers": 2, "hands": 0,
                "back": ((5, 0), (1, 0)), "counts": False, "keeps": False}
        given = {"writers": WRITERS[:4], "fill": FILL, "phases": PHASES[:6], "workers": 2, "hands": 0,
                 "back": [(5, 0), (1, 0)]}
        self.assertEqual(vars(Rollout(**given)), told)
        self.assertEqual(vars(Rollout(**{**given, "writers": tuple(WRITERS[:4]), "back": ((5, 0), (1, 0))})), told)
        with self.assertRaises(TypeError):
            Rollout(WRITERS[:1], FILL, PHASES[:1], 2)

    def test_lists_that_are_changed_later(self):
        writers, phases, back = WRITERS[:2], PHASES[:2], [(1, 0)]
        rollout = Rollout(writers, FILL, phases, back=back)
        self.assertEqual((writers, phases, back), (WRITERS[:2], PHASES[:2], [(1, 0)]))
        del writers[0], phases[0], back[0]
        self.assertEqual(rollout, Rollout(WRITERS[:2], FILL, PHASES[:2], back=[(1, 0)]))
        self.assertEqual(len(rollout), 2)

    def test_writers(self):
        for many in range(1, 5):
            self.assertEqual(Rollout(WRITERS[:many], FILL, PHASES[:1]).writers, tuple(WRITERS[:many]))
        for value in [[], (), WRITERS, tuple(WRITERS), WRITERS[0], iter(WRITERS[:1]), {"a": WRITERS[0]}, "abc"]:
            self.fails_at("writers", -1, value, FILL, PHASES[:1])
            self.fails_at("writers", -1, value, 7, 7, workers=7, hands=7, back=7)
        for value in strange.values():
            if not (isinstance(value, (list, tuple)) and 1 <= len(value) <= 4):
                self.fails_at("writers", -1, value, FILL, PHASES[:1])
            if not isinstance(value, Writer):
                self.fails_at("writers", 0, [value], FILL, PHASES[:1])
                self.fails_at("writers", 2, (*WRITERS[:2], value, 7), 7, 7)
        self.fails_at("writers", -1, [7, 7, 7, 7, 7], FILL, PHASES[:1])
        self.fails_at("writers", 0, [7, 7, 7, 7], FILL, PHASES[:1])
        self.fails_at("writers", 1, [WRITERS[0], WRITERS[0]], FILL, PHASES[:1])
        self.fails_at("writers", 2, [WRITERS[0], WRITERS[1], Writer("a", TAKE), 7], FILL, PHASES[:1])

    def test_fill(self):
        for value in strange.values() + [COPY, None]:
            if not isinstance(value, Fill):
                self.fails_at("fill", -1, WRITERS[:1], value, PHASES[:1])
                self.fails_at("fill", -1, WRITERS[:1], value, 7, workers=7)

    def test_phases(self):
        for many in range(1, 7):
            rollout = Rollout(WRITERS[:1], FILL, PHASES[:many])
            self.assertEqual(rollout.phases, tuple(PHASES[:many]))
            self.assertEqual(len(rollout), many)
        for value in [[], (), PHASES, tuple(PHASES), PHASES[0], iter(PHASES[:1]), {"p": PHASES[0]}, [7] * 7]:
            self.fails_at("phases", -1, WRITERS[:1], FILL, value)
            self.fails_at("phases", -1, WRITERS[:1], FILL, value, workers=0, hands=-1, back=7)
        for value in strange.values():
            if not isinstance(value, Phase):
                self.fails_at("phases", 0, WRITERS[:1], FILL, [value])
                self.fails_at("phases", 1, WRITERS[:1], FILL, [PHASES[0], value, 7])
            if not (isinstance(value, (list, tuple)) and 1 <= len(value) <= 6):
                self.fails_at("phases", -1, WRITERS[:1], FILL, value)
        self.fails_at("phases", 1, WRITERS[:1], FILL, [PHASES[0], PHASES[0]])
        self.fails_at("phases", 2, WRITERS[:1], FILL, [*PHASES[:2], Phase("one", fills=True)], workers=7)

    def test_writers_of_phases(self):
        good = Phase("one", writers=("b", "a"))
        self.assertEqual(Rollout(WRITERS[:2], FILL, [good]).phases, (good,))
        self.fails_at("phases", 0, WRITERS[:1], FILL, [good])
        self.fails_at("phases", 1, WRITERS[:2], FILL, [good, Phase("two", writers=("a", "c")), 7])
        self.fails_at("phases", 1, WRITERS[:2], FILL, [good, Phase("one", writers=("c",))])

    def test_workers_and_hands(self):
        for workers in (1, 2):
            for hands in (0, 1, 2):
                rollout = Rollout(WRITERS[:1], FILL, PHASES[:1], workers=workers, hands=hands)
                self.assertEqual((rollout.workers, rollout.hands), (workers, hands))
        for value in [0, 3, -1, *[value for value in strange.values() if type(value) is not int]]:
            self.fails_at("workers", -1, WRITERS[:1], FILL, PHASES[:1], workers=value)
            self.fails_at("workers", -1, WRITERS[:1], FILL, PHASES[:1], workers=value, hands=3, back=7)
        for value in [-1, 3, strange.GREAT, *[value for value in strange.values() if type(value) is not int]]:
            self.fails_at("hands", -1, WRITERS[:1], FILL, PHASES[:1], hands=value)
            self.fails_at("hands", -1, WRITERS[:1], FILL, PHASES[:1], hands=value, back=7)

    def test_back(self):
        ways = [(2, 0), (1, 0), (2, 1)]
        self.assertEqual(Rollout(WRITERS[:1], FILL, PHASES[:3], back=ways).back, tuple(ways))
        self.assertEqual(Rollout(WRITERS[:1], FILL, PHASES[:1], back=[]).back, ())
        for value in strange.values():
            if not isinstance(value, (list, tuple)):
                self.fails_at("back", -1, WRITERS[:1], FILL, PHASES[:3], back=value)
            if not isinstance(value, int) or value != 0:
                self.fails_at("back", 0, WRITERS[:1], FILL, PHASES[:3], back=[(1, value)])
            self.fails_at("back", 0, WRITERS[:1], FILL, PHASES[:3], back=[value])
            self.fails_at("back", 1, WRITERS[:1], FILL, PHASES[:3], back=((2, 1), (value, value), 7))
        for pair in [(0, 0), (1, 1), (0, 1), (1, 2), (3, 0), (2, -1), (-1, -2), (1,), (1, 0, 0), [1, 0], (True, 0),
                     (1, False), (2, True), (True, False), ("1", 0), (1, None), ((1, 0),), "10", (2, 0)]:
            self.fails_at("back", 1, WRITERS[:1], FILL, PHASES[:3], back=[(2, 0), pair, 7])
        self.fails_at("back", 0, WRITERS[:1], FILL, PHASES[:1], back=[(1, 0)])
        self.fails_at("back", 2, WRITERS[:1], FILL, PHASES[:3], back=[(2, 0), (1, 0), (2, 0)])

    def test_counts_and_keeps(self):
        for first, second, counts, keeps in [
            ((), (), False, False), (("right", "mild"), (), False, False), (("once",), (), True, False),
            ((), ("once",), True, False), (("kept",), (), False, True), ((), ("kept",), False, True),
            (("kept",), ("once",), True, True), (("right", "mild", "kept", "once"), (), True, True),
        ]:
            rollout = Rollout(WRITERS[:1], FILL, [Phase("one", promises=first), Phase("two", promises=second)])
            self.assertIs(rollout.counts, counts)
            self.assertIs(rollout.keeps, keeps)

    def test_equal(self):
        def rollout(writers=WRITERS[:2], fill=FILL, phases=PHASES[:3], **more):
            return Rollout(writers, fill, phases, **more)

        self.assertEqual(rollout(), rollout(tuple(WRITERS[:2]), Fill(COPY), tuple(PHASES[:3]), workers=1, hands=1, back=[]))
        self.differs_from_all_else(
            rollout(), rollout(WRITERS[:1]), rollout(WRITERS[1::-1]), rollout(fill=Fill(PUT)), rollout(phases=PHASES[:2]),
            rollout(phases=PHASES[2::-1]), rollout(workers=2), rollout(hands=0), rollout(hands=2), rollout(back=[(1, 0)]),
            rollout(back=[(1, 0), (2, 0)]), rollout(back=[(2, 0), (1, 0)]))

    def test_is_not_gone_through(self):
        with self.assertRaises(TypeError):
            iter(strange.small_rollout())
