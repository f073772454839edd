"""Point 53: a desk."""

import inspect
import random
import time

from fillbehind.desks import Desk
from fillbehind.errors import FillError, NoChange, NoNumber, NoRollout, TooMany
from fillbehind.judging import judge
from fillbehind.repairs import options
from fillbehind.rollouts import Fill, Phase, Rollout, Writer
from fillbehind.ways import with_way, without
from tests import strange
from tests.cases import SMALL, Case, levels, no_integers, no_rollouts
from tests.rolls import BOTH, COPY, KEEP, NOW, TAKE, example, one, rollout as made
from tests.test_options import NEVER, OPEN, THERE, rollout as many_options

METHODS = {
    "told": "(self)", "take": "(self, option)", "leave_out": "(self, phase)", "add_way": "(self, phase, earlier)",
    "put_fill": "(self, fill)", "put_writer": "(self, writer)", "put_phase": "(self, index, phase)", "undo": "(self)", "redo": "(self)",
    "verdict": "(self, *, most=2000)",
}


def changed(rollout, **parts):
    """The rollout with other parts."""
    found = {name: getattr(rollout, name) for name in ("writers", "fill", "phases", "workers", "hands", "back")}
    return Rollout(**{**found, **parts})


class DeskCase(Case):
    def does(self, desk, rollout, many, name, *given, **named):
        """A change is made, and leads to this rollout."""
        self.assertIs(getattr(desk, name)(*given, **named), None)
        self.assertEqual(desk.told(), rollout)
        self.assertEqual(len(desk), many)

    def refused(self, desk, name, *given, **named):
        """A change is refused, and forgets nothing."""
        told, many = desk.told(), len(desk)
        self.fails(NoChange, {"word": name}, getattr(desk, name), *given, **named)
        self.assertEqual((desk.told(), len(desk)), (told, many))


class TestDesk(DeskCase):
    def test_a_new_one(self):
        desk = Desk(rollout=example())
        self.assertEqual((desk.told(), len(desk)), (example(), 0))
        self.assertIs(desk.undo(), False)
        self.assertIs(desk.redo(), False)
        self.assertEqual(desk.told(), example())
        for value in no_rollouts():
            self.fails(NoRollout, {"part": "rollout", "index": -1}, Desk, value)

    def test_methods(self):
        for name, told in METHODS.items():
            self.assertEqual(str(inspect.signature(vars(Desk)[name])), told)
        self.assertIn("__len__", vars(Desk))
        self.assertEqual(str(inspect.signature(Desk)), "(rollout)")

    def test_take(self):
        for option in OPEN:
            desk = Desk(many_options())
            self.does(desk, many_options() | option, 1, "take", option)
            self.refused(desk, "take", option)
            self.assertIs(desk.undo(), True)
            self.does(desk, many_options() | option, 1, "take", option=option)
        desk, rollout = Desk(many_options()), many_options()
        for at, option in enumerate(OPEN):
            rollout = rollout | option
            self.does(desk, rollout, at + 1, "take", option)
        for value in [*strange.values(), *NEVER, *THERE, *OPEN, *map(list, OPEN)]:
            self.refused(desk, "take", value)

    def test_leave_out(self):
        rollout = many_options()
        for phase in range(3):
            desk = Desk(rollout)
            self.does(desk, without(rollout, phase), 1, "leave_out", phase)
            self.does(desk, without(without(rollout, phase), 0), 2, "leave_out", phase=0)
            for value in [*strange.values(), 0]:
                self.refused(desk, "leave_out", value)
        for value in [*no_integers(), -1, 3, strange.GREAT]:
            self.refused(Desk(rollout), "leave_out", value)

    def test_add_way(self):
        rollout = many_options()
        desk = Desk(rollout)
        self.does(desk, changed(rollout, back=[(2, 0), (1, 0), (2, 1)]), 1, "add_way", 2, 1)
        desk.undo()
        self.does(desk, changed(rollout, back=[(2, 0), (1, 0), (2, 1)]), 1, "add_way", earlier=1, phase=2)
        for phase in range(3):
            for value in [*no_integers(), -1, 0, 1, 2, strange.GREAT]:
                self.refused(desk, "add_way", phase, value)
                self.refused(desk, "add_way", value, phase)

    def test_put_fill(self):
        desk = Desk(example())
        self.does(desk, example(fill=NOW), 1, "put_fill", Fill(NOW, batch=2))
        self.does(desk, changed(example(), fill=Fill(COPY, again=True)), 2, "put_fill", fill=Fill(COPY, again=True))
        self.does(desk, changed(example(), fill=Fill(COPY, again=True)), 3, "put_fill", Fill(COPY, again=True))
        for value in strange.values():
            if type(value) is not Fill:
                self.refused(desk, "put_fill", value)
        self.refused(desk, "put_fill", NOW)

    def test_put_writer(self):
        desk = Desk(many_options())
        writers = list(many_options().writers)
        for at in (1, 0, 2):
            writers[at] = Writer(writers[at].name, KEEP, TAKE)
            self.does(desk, changed(many_options(), writers=writers), len(desk) + 1, "put_writer", writers[at])
        writers.append(Writer("more", BOTH))
        self.does(desk, changed(many_options(), writers=writers), 4, "put_writer", writer=writers[3])
        self.refused(desk, "put_writer", Writer("fifth", BOTH))
        for at in range(4):
            writers[at] = Writer(writers[at].name, ("delete", ()))
            self.does(desk, changed(many_options(), writers=writers), 5 + at, "put_writer", writers[at])
        for value in strange.values():
            if type(value) is not Writer:
                self.refused(desk, "put_writer", value)
        # The writer of a phase may be another one of its name.
        self.does(Desk(example()), example(BOTH), 1, "put_writer", Writer("old", BOTH))

    def test_put_phase(self):
        rollout = many_options()
        desk = Desk(rollout)
        phases = list(rollout.phases)
        for at in (1, 2, 0):
            phases[at] = Phase(phases[at].name, writers=("full",), promises=("kept",))
            self.does(desk, changed(rollout, phases=phases), len(desk) + 1, "put_phase", at, phases[at])
        phases[1] = Phase("other", waits=("done",))
        self.does(desk, changed(rollout, phases=phases), 4, "put_phase", 1, phases[1])
        for name in ("four", "two", "six"):
            phases.append(Phase(name, fills=True))
            self.does(desk, changed(rollout, phases=phases), len(phases) + 1, "put_phase", phase=phases[-1], index=len(phases) - 1)
        # A seventh one; an index that is none; a second one of a name; unknown writers; no phase.
        self.refused(desk, "put_phase", 6, Phase("seven"))
        for value in [*no_integers(), -1, 7, strange.GREAT, -strange.GREAT]:
            self.refused(desk, "put_phase", value, Phase("seven"))
        for at in range(6):
            self.refused(desk, "put_phase", at, Phase("six" if at < 5 else "four"))
            self.refused(desk, "put_phase", at, Phase("seven", writers=("full", "nobody")))
            for value in strange.values():
                if type(value) is not Phase:
                    self.refused(desk, "put_phase", at, value)
        desk = Desk(example())
        self.refused(desk, "put_phase", 1, Phase("one"))
        self.refused(desk, "put_phase", 2, Phase("two"))
        self.does(desk, changed(example(), phases=[Phase("one", fills=True)]), 1, "put_phase", 0, Phase("one", fills=True))

    def test_a_change_that_leaves_it_equal(self):
        rollout = example()
        desk = Desk(rollout)
        self.does(desk, rollout, 1, "put_fill", rollout.fill)
        self.does(desk, rollout, 2, "put_writer", rollout.writers[0])
        self.does(desk, rollout, 3, "put_phase", 0, rollout.phases[0])
        self.assertEqual([desk.undo() for _ in range(4)], [True, True, True, False])
        self.assertEqual([desk.redo() for _ in range(2)], [True, True])
        self.does(desk, rollout, 3, "put_fill", Fill(COPY, batch=2))
        self.assertIs(desk.redo(), False)

    def test_undo_and_redo(self):
        desk = Desk(example())
        rollouts = [example()]
        for word in ("missing", "same old", "same new", "lock"):
            desk.take(("fill", word))
            rollouts.append(desk.told())
        for many in (3, 2, 1, 0):
            self.assertIs(desk.undo(), True)
            self.assertEqual((desk.told(), len(desk)), (rollouts[many], many))
        self.assertIs(desk.undo(), False)
        self.assertEqual((desk.told(), len(desk)), (rollouts[0], 0))
        for many in (1, 2, 3, 4):
            self.assertIs(desk.redo(), True)
            self.assertEqual((desk.told(), len(desk)), (rollouts[many], many))
        self.assertIs(desk.redo(), False)
        self.assertEqual((desk.told(), len(desk)), (rollouts[4], 4))
        # Another change ends what could be done again.
        desk.undo()
        desk.undo()
        desk.take(("fill", "only missing"))
        self.assertIs(desk.redo(), False)
        self.assertEqual((len(desk), desk.told()), (3, rollouts[2] | ("fill", "only missing")))
        self.assertIs(desk.undo(), True)
        self.assertEqual(desk.told(), rollouts[2])

    def test_a_refused_change_forgets_nothing(self):
        desk = Desk(many_options())
        desk.take(OPEN[0])
        desk.take(OPEN[1])
        desk.undo()
        for name, given in [("take", (7,)), ("leave_out", (9,)), ("add_way", (0, 0)), ("put_fill", (None,)), ("put_writer", ([],)),
                            ("put_phase", (0, Phase("two"))), ("put_phase", (9, Phase("nine"))), ("put_writer", (Fill(NOW),)),
                            ("put_phase", (3, Phase("new", writers=("nobody",))))]:
            self.refused(desk, name, *given)
        self.fails(TooMany, {"most": 1}, desk.verdict, most=1)
        self.assertIs(desk.redo(), True)
        self.assertEqual(desk.told(), many_options() | OPEN[0] | OPEN[1])
        self.assertEqual([desk.undo(), desk.undo(), desk.undo()], [True, True, False])

    def test_verdict(self):
        for seed in SMALL[:30]:
            rollout = made(seed, small=True)
            desk = Desk(rollout)
            self.assertEqual(desk.verdict(), judge(rollout))
            many = len(levels(rollout))
            self.assertEqual(desk.verdict(most=many), judge(rollout))
            if many > 2:
                self.fails(TooMany, {"most": many - 1}, desk.verdict, most=many - 1)
            for option in options(rollout)[:2]:
                desk.take(option)
                self.assertEqual(desk.verdict(most=4000), judge(rollout | option, most=4000))
                desk.undo()
        desk = Desk(example())
        for value in [*no_integers(), 0, -1, -strange.GREAT]:
            self.fails(NoNumber, {"part": "most"}, desk.verdict, most=value)
        with self.assertRaises(TypeError):
            desk.verdict(2000)
        desk.verdict()[1][1].clear()
        self.assertEqual(desk.verdict(), judge(example()))

    def test_two_desks(self):
        first, second = Desk(example()), Desk(example())
        first.take(("fill", "lock"))
        self.assertEqual((len(first), len(second), second.told()), (1, 0, example()))

    def test_many_changes(self):
        ahead = time.monotonic()
        desk = Desk(example())
        fills = [Fill(NOW), Fill(COPY)]
        for at in range(20000):
            desk.put_fill(fills[at % 2])
        self.assertEqual(len(desk), 20000)
        for at in range(20000):
            self.assertTrue(desk.undo())
        self.assertEqual((desk.undo(), len(desk), desk.told()), (False, 0, example()))
        for at in range(20000):
            self.assertTrue(desk.redo())
        self.assertEqual((desk.redo(), len(desk), desk.told().fill), (False, 20000, fills[1]))
        self.assertLess(time.monotonic() - ahead, 20)


class TestByChance(DeskCase):
    def changes(self, chance, rollout):
        """A change by chance: its name, its arguments, and what makes the rollout behind it."""
        phase, index = chance.randrange(-1, 4), chance.randrange(-1, 7)
        way = (chance.randrange(4), chance.randrange(3))
        option = chance.choice([*options(rollout), *options(rollout), *OPEN])
        fill = made(chance.randrange(99)).fill
        writer = Writer(chance.choice("abcde"), chance.choice([KEEP, BOTH]))
        new = Phase(chance.choice(["one", "two", "p", "q", "r"]), writers=chance.choice([(), ("a",), ("a", "b"), ("e",)]))
        writers = {other.name: other for other in rollout.writers}
        writers[writer.name] = writer
        phases = list(rollout.phases)
        phases[max(index, 0):max(index, 0) + 1] = [new]
        return chance.choice([
            ("take", (option,), lambda: rollout | option),
            ("leave_out", (phase,), lambda: without(rollout, phase)),
            ("add_way", way, lambda: with_way(rollout, *way)),
            ("put_fill", (fill,), lambda: changed(rollout, fill=fill)),
            ("put_writer", (writer,), lambda: changed(rollout, writers=list(writers.values()))),
            ("put_phase", (index, new), lambda: changed(rollout, phases=phases if 0 <= index <= len(rollout) else [])),
        ])

    def test_as_a_list_of_rollouts(self):
        words = set()
        for seed in range(60):
            chance = random.Random(seed)
            rollouts, place = [made(seed)], 0
            desk = Desk(rollouts[0])
            for _ in range(60):
                turn = chance.choice(["undo", "redo", "change", "change"])
                if turn == "undo":
                    self.assertIs(desk.undo(), place > 0)
                    place = max(place - 1, 0)
                elif turn == "redo":
                    self.assertIs(desk.redo(), place + 1 < len(rollouts))
                    place = min(place + 1, len(rollouts) - 1)
                else:
                    name, given, make = self.changes(chance, rollouts[place])
                    try:
                        rollouts[place + 1:] = [make()]
                    except FillError:
                        self.refused(desk, name, *given)
                        words.add((name, "refused"))
                        continue
                    place += 1
                    words.add((name, "done"))
                    self.does(desk, rollouts[place], place, name, *given)
                self.assertEqual((desk.told(), len(desk)), (rollouts[place], place))
        names = [name for name in METHODS if name not in ("told", "undo", "redo", "verdict", "put_fill")]
        self.assertTrue({(name, word) for name in names for word in ("done", "refused")} <= words, words)


class TestOneRepair(DeskCase):
    def test_until_it_holds(self):
        desk = Desk(one(BOTH, fill=COPY, promises=("mild",)))
        self.assertEqual(desk.verdict()[0], "breaks")
        desk.take(("fill", "lock"))
        self.assertEqual(desk.verdict()[0], "holds")
        desk.undo()
        self.assertEqual(desk.verdict()[0], "breaks")
        desk.redo()
        self.assertEqual(desk.verdict()[0], "holds")
