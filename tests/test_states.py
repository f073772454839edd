"""Points 25 to 28: the states of one row, their moves, and histories."""

import inspect

from fillbehind.errors import NoHistory, NoMove, NoRollout, NoState
from fillbehind.rollouts import Fill, Phase, Rollout, Writer
from fillbehind.states import after, is_state, moves, starts, symbols, walk
from tests import cases, strange
from tests.rolls import COPY, KEEP, NOW, READ, TAKE, example, one, rollout as made

AHEAD = ("ahead", None)
R = (0, None)


def full(**more):
    """A rollout whose states have all that a state can have."""
    writers = [Writer("a", TAKE), Writer("b", READ, TAKE, ("put", "now", ())), Writer("c", KEEP, READ, KEEP)]
    phases = [Phase("one", writers=("a", "b"), fills=True, promises=("kept", "once")), Phase("two", fills=True)]
    return Rollout(writers, Fill(COPY, **{"save": "first", **more}), phases, workers=2, hands=2)


class Case(cases.Case):
    def deeds(self, rollout, state):
        found = moves(rollout, state)
        self.assertIs(type(found), list)
        self.assertTrue(all(type(pair) is tuple and len(pair) == 2 for pair in found))
        deeds = [deed for deed, _ in found]
        self.assertEqual(len(set(deeds)), len(deeds))
        return set(deeds)


class TestIsState(Case):
    def test_good_ones(self):
        call = (1, 1, 0, (1, None))
        for state in [
            (0, None, None, 0, (AHEAD, AHEAD), ()), (1, R, 0, 0, (AHEAD, AHEAD), ()), (0, (0, 0), None, 2, (AHEAD, AHEAD), ()),
            (0, (0, 1), 2, 1, (AHEAD, AHEAD), ()), (0, (0, 1), 0, 1, (AHEAD, AHEAD), ()), (0, R, 1, 0, (AHEAD, AHEAD), ()),
            (0, None, 0, 0, (AHEAD, AHEAD), ()),
            (0, None, None, 0, (("batch", R), ("late", (1, 0))), ()), (0, R, 0, 0, (("batch", (0, 1)), ("batch", (2, 3))), ()),
            (0, None, None, 0, (("over", None), ("behind", None)), ()), (0, None, None, 0, (("done", None), AHEAD), ()),
            (0, None, None, 0, (AHEAD, AHEAD), (call,)), (0, None, None, 0, (AHEAD, AHEAD), ((1, 2, 0, (0, 0)), (1, 1, 1, (2, 3)))),
            (0, None, None, 0, (AHEAD, AHEAD), ((2, 1, None, None), (2, 2, None, R))),
            (1, (0, 1), 2, 2, (("late", (3, 4)), ("batch", (5, 6))), ((1, 1, 7, (8, 9)), (1, 2, 10, (11, 12)))),
            (1, (0, 1), 1, 2, (("late", (1, 0)), ("batch", (2, 0))), ((1, 1, 3, (1, 4)), (1, 2, 0, (5, None)))),
        ]:
            self.assertIs(is_state(full(), state), True, state)
            self.assertIs(is_state(state=state, rollout=full()), True)

    def test_numbering(self):
        rest = (AHEAD, AHEAD)
        for state in [
            (0, (1, None), None, 0, rest, ()), (0, (1, 0), None, 0, rest, ()), (0, (0, 2), None, 0, rest, ()),
            (0, R, 2, 0, rest, ()), (0, (0, 0), 2, 0, rest, ()), (0, None, 1, 0, rest, ()), (0, (-1, None), None, 0, rest, ()),
            (0, R, None, 0, (("batch", (2, 1)), AHEAD), ()), (0, R, None, 0, (("late", (2, None)), AHEAD), ()),
            (0, None, None, 0, (("batch", (1, None)), ("batch", R)), ()),
            (0, R, 0, 0, rest, ((1, 1, 2, (1, None)),)), (0, R, 1, 0, rest, ((1, 1, 2, (4, 3)),)),
            (0, None, None, 0, rest, ((1, 1, 1, R),)), (0, None, None, 0, rest, ((1, 1, 1, (1, 0)), (1, 1, 0, R))),
            (0, None, None, 0, (("batch", (1, None)), AHEAD), ((1, 1, 0, R),)), (0, (strange.GREAT, None), None, 0, rest, ()),
            (0, (0, strange.GREAT), None, 0, rest, ()), (0, None, -strange.GREAT, 0, rest, ()),
        ]:
            self.assertIs(is_state(full(), state), False, state)

    def test_parts(self):
        good = (1, (0, 1), 1, 2, (("late", (1, 0)), ("batch", (2, 0))), ((1, 1, 3, (1, 4)), (1, 2, 0, (5, None))))
        self.assertIs(is_state(full(), good), True)
        wrong = [
            (0, [2, -1, None, True, "1", (1,)]), (1, [0, (0,), (0, 1, 1), (None, 1), [0, 1], (True, 1), (0, False), "01"]),
            (2, [True, "1", (1,), [1]]), (3, [3, -1, None, True, "1"]),
            (4, [None, (), (("late", (1, 0)),), good[4] + (AHEAD,), list(good[4])]),
            (5, [None, list(good[5]), good[5] + ((1, 1, 3, (1, 4)),), good[5][0], (good[5],)]),
        ]
        for at, values in wrong:
            for value in values:
                self.assertIs(is_state(full(), good[:at] + (value,) + good[at + 1:]), False, (at, value))
        for value in [list(good), good[:5], good + ((),), good[::-1], (good,)]:
            self.assertIs(is_state(full(), value), False)

    def test_values_of_all_kinds(self):
        good = (1, (0, 1), 1, 2, (("late", (1, 0)), ("batch", (2, 0))), ((1, 1, 3, (1, 4)), (1, 2, 0, (5, None))))
        for value in strange.values():
            self.assertIs(is_state(full(), value), False)
            for at in range(6):
                if type(value) is not int and not (at < 3 and value is None) and not (at == 5 and value == ()):
                    self.assertIs(is_state(full(), good[:at] + (value,) + good[at + 1:]), False, at)
            for worker in [(value, None), (value, R), ("batch", value), ("late", value), ("batch", (0, value, 1)), value]:
                state = (0, R, 0, 0, (worker, AHEAD), ())
                self.assertIs(is_state(full(), state), False)
            if value is not None:
                self.assertIs(is_state(full(), (0, R, 0, 0, (("ahead", value), AHEAD), ())), False)
            calls = [(value, 1, 0, R), (1, value, 0, R)] if type(value) is not int or value not in (1, 2) else []
            calls += [(2, 1, None, value), (2, 1, value, None)] if value is not None else []
            for call in [*calls, (1, 1, 0, value), value]:
                self.assertIs(is_state(full(), (0, R, 0, 0, (AHEAD, AHEAD), (call,))), False)

    def test_keeps_and_counts(self):
        for promises, last, count in [((), False, False), (("right", "mild"), False, False), (("kept",), True, False),
                                      (("once",), False, True)]:
            rollout = one(TAKE, promises=promises)
            self.assertIs(is_state(rollout, (0, R, 0, 0, (AHEAD,), ())), last)
            self.assertIs(is_state(rollout, (0, None, 0, 0, (AHEAD,), ())), last)
            for number in (1, 2):
                self.assertIs(is_state(rollout, (0, R, None, number, (AHEAD,), ())), count)
                self.assertIs(is_state(rollout, (0, None, None, number, (AHEAD,), ())), False)
            self.assertIs(is_state(rollout, (0, R, None, 0, (AHEAD,), ())), True)
            self.assertIs(is_state(rollout, (0, R, None, 3, (AHEAD,), ())), False)

    def test_words_of_workers(self):
        for save, lates in (("first", True), ("last", False)):
            rollout = one(KEEP, save=save)
            for word in ("batch", "late"):
                found = is_state(rollout, (0, None, None, 0, ((word, R),), ()))
                self.assertIs(found, lates if word == "late" else True)
                self.assertIs(is_state(rollout, (0, None, None, 0, ((word, None),), ())), False)
            for word in ("ahead", "over", "behind", "done"):
                self.assertIs(is_state(rollout, (0, None, None, 0, ((word, None),), ())), True)
                self.assertIs(is_state(rollout, (0, None, None, 0, ((word, R),), ())), False)
            for word in ("Ahead", "", "read", "set", None, b"ahead", ("ahead",)):
                self.assertIs(is_state(rollout, (0, None, None, 0, ((word, None),), ())), False)
                self.assertIs(is_state(rollout, (0, None, None, 0, ((word, R),), ())), False)
        self.assertIs(is_state(one(KEEP, workers=2), (0, None, None, 0, (AHEAD,), ())), False)
        self.assertIs(is_state(one(KEEP, workers=2, lock=True), (0, R, None, 0, (("batch", R), ("batch", R)), ())), True)

    def test_calls(self):
        for call, fits in [
            ((1, 1, 0, R), True), ((1, 2, 0, R), True), ((1, 0, 0, R), False), ((1, 3, 0, R), False), ((1, 1, None, R), False),
            ((1, 1, 0, None), False), ((2, 1, None, None), True), ((2, 2, None, R), True), ((2, 1, None, R), False),
            ((2, 2, None, None), False), ((2, 1, 0, None), False), ((0, 1, 0, None), False), ((0, 0, 0, None), False),
            ((3, 1, 0, R), False), ((-1, 1, None, None), False), ((-2, 1, 0, R), False), ((True, 1, 0, R), False),
            ((1, True, 0, R), False), ((1, 1, False, R), False), ((1, 1, 0), False), ((1, 1, 0, R, 0), False),
            ([1, 1, 0, R], False), ((1, 1, 0, [0, None]), False),
        ]:
            self.assertIs(is_state(full(), (0, None, None, 0, (AHEAD, AHEAD), (call,))), fits, call)
        call = (2, 1, None, None)
        for hands in (0, 1, 2):
            writers, phases = full().writers, full().phases
            rollout = Rollout(writers, Fill(COPY), phases, hands=hands)
            for many in range(4):
                self.assertIs(is_state(rollout, (0, None, None, 0, (AHEAD,), (call,) * many)), many <= hands)

    def test_no_rollout(self):
        for value in strange.values():
            if type(value) is not Rollout:
                for call, given in [(is_state, (7,)), (starts, ()), (after, (7, 7)), (moves, (7,))]:
                    self.fails(NoRollout, {"part": "rollout", "index": -1}, call, value, *given)


class TestSymbols(Case):
    def test_number_of_symbols(self):
        for state, many in [
            ((0, None, None, 0, (AHEAD, AHEAD), ()), 0), ((1, R, 0, 0, (AHEAD, AHEAD), ()), 1),
            ((0, (0, 1), 2, 1, (AHEAD, AHEAD), ()), 3), ((0, (0, 1), 1, 1, (AHEAD, AHEAD), ()), 2),
            ((1, (0, 1), 2, 2, (("late", (3, 4)), ("batch", (5, 6))), ((1, 1, 7, (8, 9)), (1, 2, 10, (11, 12)))), 13),
            ((1, (0, 1), 1, 2, (("late", (1, 0)), ("batch", (2, 0))), ((1, 1, 3, (1, 4)), (1, 2, 0, (5, None)))), 6),
            ((0, None, None, 0, (AHEAD,), ((1, 1, 0, None),)), 1), ((5, None, None, 2, (), ()), 0),
        ]:
            self.assertEqual(symbols(state), many)
            self.assertEqual(symbols(state=state), many)


class TestStarts(Case):
    def test_starts(self):
        self.assertEqual(starts(example()), [(0, None, None, 0, (AHEAD,), ()), (0, R, None, 0, (AHEAD,), ())])
        self.assertEqual(starts(rollout=full()), [(0, None, None, 0, (AHEAD, AHEAD), ()), (0, R, 0, 0, (AHEAD, AHEAD), ())])
        found = starts(full())
        found.clear()
        self.assertEqual(len(starts(full())), 2)
        for seed in range(30):
            self.assertEqual([is_state(made(seed), state) for state in starts(made(seed))], [True, True])


class TestMoves(Case):
    def test_calls_and_their_inputs(self):
        rollout = one(TAKE, writers=[Writer("none", NOW), Writer("new", ("insert", "now"))])
        self.assertEqual(self.deeds(rollout, (0, None, None, 0, (("done", None),), ())),
                         {("call", "w", 0), ("call", "none", None), ("call", "new", 0)})
        self.assertEqual(self.deeds(rollout, (0, (0, 1), None, 0, (("done", None),), ())),
                         {("call", name, value) for name in ("w", "new") for value in (0, 1, 2)} | {("call", "none", None)})
        state = (0, (0, 1), None, 0, (("done", None),), ())
        for deed, row in [(("call", "w", 0), (0, 1)), (("call", "w", 1), (0, 0)), (("call", "w", 2), (0, 1)),
                          (("call", "none", None), (0, 0)), (("call", "new", 2), (0, 1))]:
            self.assertEqual(after(rollout, state, deed)[1], row, deed)
        self.assertEqual(after(rollout, (0, None, None, 0, (AHEAD,), ()), ("call", "new", 0))[1], (0, 0))
        for deed in [("call", "w", 3), ("call", "w", -1), ("call", "w", None), ("call", "w", True), ("call", "none", 0),
                     ("call", "none"), ("call", "other", 0), ("call", "w", 0, 0), ("call", "w", 7, 0)]:
            self.fails(NoMove, {"deed": deed}, after, rollout, state, deed)

    def test_writers_of_the_phase(self):
        rollout = Rollout([Writer("a", KEEP), Writer("b", KEEP)], Fill(COPY),
                          [Phase("one", writers=("b",)), Phase("two", writers=("a",)), Phase("three")])
        for phase, deeds in [(0, {("call", "b", None), ("next",)}), (1, {("call", "a", None), ("next",)}), (2, set())]:
            self.assertEqual(self.deeds(rollout, (phase, R, None, 0, (AHEAD,), ())), deeds)

    def test_hands(self):
        writers = [Writer("x", KEEP)]
        for hands in (0, 1, 2):
            rollout = one(READ, ("put", "now", ()), hands=hands, writers=writers)
            for many in range(hands + 1):
                state = (0, R, None, 0, (("done", None),), ((0, 1, None, R),) * many)
                deeds = {("call", "x", None)} | {("go", at) for at in range(many)}
                if many < hands:
                    deeds.add(("call", "w", None))
                self.assertEqual(self.deeds(rollout, state), deeds)

    def test_steps_of_calls(self):
        rollout = one(READ, TAKE, ("set", "read", "copy", ()), hands=2)
        done = (("done", None),)
        state = after(rollout, (0, (0, 1), None, 0, done, ()), ("call", "w", 2))
        self.assertEqual(state, (0, (0, 1), None, 0, done, ((0, 1, 2, (0, 1)),)))
        state = after(rollout, state, ("call", "w", 3))
        self.assertEqual(state, (0, (0, 1), None, 0, done, ((0, 1, 2, (0, 1)), (0, 1, 3, (0, 1)))))
        state = after(rollout, state, ("go", 1))
        self.assertEqual(state, (0, (0, 1), None, 0, done, ((0, 1, 2, (3, 1)), (0, 2, 0, (3, 1)))))
        self.assertEqual(after(rollout, state, ("go", 1)), (0, (0, 1), None, 0, done, ((0, 1, 2, (0, 1)),)))
        self.assertEqual(after(rollout, state, ("go", 0)), (0, (0, 1), None, 0, done, ((0, 2, 0, (2, 1)), (0, 2, 3, (2, 1)))))
        for deed in [("go", 2), ("go", -1), ("go", None), ("go", True), ("go",), ("go", "0")]:
            self.fails(NoMove, {"deed": deed}, after, rollout, state, deed)

    def test_a_read_without_a_row_ends_the_call(self):
        rollout = one(READ, READ, ("put", "now", ()))
        state = (0, None, None, 0, (("done", None),), ())
        self.assertEqual(moves(rollout, state), [(("call", "w", None), state)])
        rollout = one(READ, READ, ("put", "now", ()), hands=2, writers=[Writer("x", ("insert", "none"), KEEP)])
        state = (0, None, None, 0, (("done", None),), ((0, 1, None, (0, 1)), (1, 1, 2, None)))
        self.assertEqual(after(rollout, state, ("go", 0)), (0, None, None, 0, (("done", None),), ((1, 1, 0, None),)))

    def test_last(self):
        rollout = one(READ, ("put", "none", ()), promises=("kept",), writers=[
            Writer("take", TAKE), Writer("gone", ("delete", ())), Writer("new", ("insert", "now"))])
        other = one(READ, ("set", "read", "keep", ("missing",)), promises=("kept",), name="reads", writers=[
            Writer("keep", NOW)])
        for state, deed, told in [
            ((R, 0, ()), ("call", "take", 0), (R, 0, ())), ((R, 0, ()), ("call", "take", 1), (R, 0, ())),
            ((R, 1, ()), ("call", "take", 0), (R, 0, ())), ((R, None, ()), ("call", "take", 0), (R, 0, ())),
            ((R, 1, ()), ("call", "gone", None), (None, None, ())), ((R, 1, ()), ("call", "new", 2), (R, 1, ())),
            ((None, None, ()), ("call", "new", 0), ((0, 0), 0, ())), ((None, 0, ()), ("call", "gone", None), (None, 0, ())),
            ((R, 1, ((0, 1, None, (2, 0)),)), ("go", 0), (R, 0, ())),
            ((None, None, ((0, 1, None, (0, 0)),)), ("go", 0), (R, 0, ())),
        ]:
            self.leads(rollout, state, deed, told)
        for state, deed, told in [
            ((R, 1, ()), ("call", "keep", None), ((0, 0), 1, ())), ((R, None, ()), ("call", "keep", None), ((0, 0), None, ())),
            ((R, 1, ((0, 1, None, (2, 0)),)), ("go", 0), (R, 0, ())),
            (((0, 0), 1, ((0, 1, None, (2, 0)),)), ("go", 0), ((0, 0), 1, ())),
        ]:
            self.leads(other, state, deed, told)

    def leads(self, rollout, state, deed, told):
        row, last, calls = state
        behind = after(rollout, (0, row, last, 0, (("done", None),), calls), deed)
        self.assertEqual(behind, (0, told[0], told[1], 0, (("done", None),), told[2]), (state, deed))

    def test_without_kept_and_once(self):
        rollout = one(TAKE, fill=NOW, writers=[Writer("gone", ("delete", ()))])
        state = (0, R, None, 0, (("batch", R),), ())
        self.assertEqual(after(rollout, state, ("call", "w", 0)), state)
        self.assertEqual(after(rollout, state, ("set", 0)), (0, (0, 0), None, 0, (("over", None),), ()))

    def test_count(self):
        rollout = one(TAKE, fill=("put", "now", ()), promises=("once",), workers=2, writers=[
            Writer("gone", ("delete", ())), Writer("new", ("insert", "none"))])
        states = [(0, R, None, count, (("batch", R), AHEAD), ()) for count in (0, 1, 2)]
        for state, count in zip(states, (1, 2, 2)):
            self.assertEqual(after(rollout, state, ("set", 0)), (0, (0, 0), None, count, (("over", None), AHEAD), ()))
            self.assertEqual(after(rollout, state, ("call", "w", 0)), state)
            self.assertEqual(after(rollout, state, ("call", "new", 1)), state)
            self.assertEqual(after(rollout, state, ("call", "gone", None))[1:4], (None, None, 0))
        state = (0, None, None, 0, (("batch", R), AHEAD), ())
        self.assertEqual(after(rollout, state, ("set", 0)), (0, (0, 0), None, 1, (("over", None), AHEAD), ()))
        self.assertEqual(after(rollout, state, ("call", "new", 1))[3], 0)
        rollout = one(TAKE, fill=("set", "keep", "now", ("missing",)), promises=("once",))
        self.assertEqual(after(rollout, (0, (0, 0), None, 1, (("batch", R),), ()), ("set", 0))[3], 1)

    def test_put_of_a_worker_leaves_last(self):
        rollout = one(("delete", ()), fill=("put", "now", ()), promises=("kept",))
        state = (0, None, None, 0, (("batch", R),), ())
        self.assertEqual(after(rollout, state, ("set", 0)), (0, (0, 0), None, 0, (("over", None),), ()))
        state = (0, R, 1, 0, (("batch", (2, None)),), ())
        self.assertEqual(after(rollout, state, ("set", 0)), (0, (0, 0), 1, 0, (("over", None),), ()))

    def words(self, rollout, row, worker, other=None):
        workers = (worker,) if other is None else (worker, other)
        phase = rollout.phases[0]
        self.assertEqual(phase.writers, ())
        return {deed[0]: behind[4][0] for deed, behind in moves(rollout, (0, row, None, 0, workers, ())) if deed[1] == 0}

    def filling(self, **more):
        return Rollout([Writer("w", KEEP)], Fill(NOW, **more), [Phase("one", fills=True)])

    def test_words_of_workers(self):
        seen = ("batch", R)
        for more, table in [
            ({}, [(R, AHEAD, {"read": seen}), (None, AHEAD, {"pass": ("over", None), "end": ("done", None)}),
                  ((0, 0), AHEAD, {"read": ("batch", (0, 0))}), (R, seen, {"set": ("over", None)}),
                  (None, seen, {"set": ("over", None)}), (R, ("over", None), {"save": ("behind", None)}),
                  (R, ("behind", None), {"end": ("done", None)}), (None, ("done", None), {}), (R, ("done", None), {})]),
            ({"save": "first"}, [
                (R, AHEAD, {"read": seen}), (R, seen, {"save": ("late", R)}), (R, ("late", R), {"set": ("behind", None)}),
                (None, AHEAD, {"pass": ("over", None), "end": ("done", None)}), (R, ("over", None), {"save": ("behind", None)}),
                (R, ("behind", None), {"end": ("done", None)}), (R, ("done", None), {})]),
            ({"only_missing": True}, [
                (R, AHEAD, {"read": seen}), ((0, 0), AHEAD, {"pass": ("over", None), "end": ("done", None)}),
                ((0, 1), AHEAD, {"pass": ("over", None), "end": ("done", None)}),
                (None, AHEAD, {"pass": ("over", None), "end": ("done", None)}), ((0, 0), seen, {"set": ("over", None)})]),
            ({"falls": True}, [
                (R, AHEAD, {"read": seen}), (R, seen, {"set": ("over", None), "fall": AHEAD}),
                (R, ("over", None), {"save": ("behind", None), "fall": AHEAD}), (R, ("behind", None), {"end": ("done", None)}),
                (R, ("done", None), {})]),
            ({"falls": True, "save": "first"}, [
                (R, seen, {"save": ("late", R), "fall": AHEAD}), (R, ("late", R), {"set": ("behind", None), "fall": ("behind", None)}),
                (R, ("over", None), {"save": ("behind", None), "fall": AHEAD}), (R, ("behind", None), {"end": ("done", None)})]),
            ({"again": True}, [(R, ("done", None), {"again": AHEAD}), (R, ("behind", None), {"end": ("done", None)})]),
        ]:
            for row, worker, told in table:
                self.assertEqual(self.words(self.filling(**more), row, worker), told, (more, row, worker))

    def test_workers_rest_in_a_phase_that_does_not_fill(self):
        rollout = Rollout([Writer("w", KEEP)], Fill(NOW, falls=True, again=True), [Phase("one")])
        for worker in [AHEAD, ("batch", R), ("over", None), ("behind", None), ("done", None)]:
            self.assertEqual(moves(rollout, (0, R, None, 0, (worker,), ())), [])

    def test_locks(self):
        writers = [Writer("x", READ, KEEP), Writer("new", ("insert", "now"))]
        more = {"workers": 2, "writers": writers, "hands": 2, "save": "first", "only_missing": True}
        calls = ((1, 1, None, R),)
        for holder in [("batch", R), ("late", R)]:
            state = (0, R, None, 0, (holder, AHEAD), calls)
            free = self.deeds(one(KEEP, **more), state)
            held = self.deeds(one(KEEP, lock=True, **more), state)
            self.assertEqual(free - held, {("call", "w", None), ("call", "new", 0), ("call", "new", 1), ("go", 0), ("read", 1)})
            self.assertEqual(held, {("call", "x", None), ("set" if holder[0] == "late" else "save", 0)})
            state = (0, (0, 0), None, 0, (AHEAD, holder), calls)
            self.assertLessEqual({("pass", 0), ("end", 0)}, self.deeds(one(KEEP, lock=True, **more), state))
        for other in ["over", "behind", "done", "ahead"]:
            state = (0, R, None, 0, ((other, None), AHEAD), calls)
            self.assertEqual(self.deeds(one(KEEP, **more), state), self.deeds(one(KEEP, lock=True, **more), state))
        rollout = one(KEEP, lock=True, workers=2)
        both = (0, R, None, 0, (("batch", R), ("batch", R)), ())
        self.assertEqual(self.deeds(rollout, both), {("set", 0), ("set", 1)})

    def test_locks_in_a_phase_that_does_not_fill(self):
        rollout = Rollout([Writer("w", KEEP), Writer("x", READ, READ, KEEP)], Fill(NOW, lock=True),
                          [Phase("one", writers=("w", "x"))])
        state = (0, R, None, 0, (("batch", R),), ((1, 1, None, R),))
        self.assertEqual(self.deeds(rollout, state), {("go", 0)})

    def test_next(self):
        writers = [Writer("a", READ, KEEP), Writer("b", READ, KEEP)]
        done = ("done", None)
        for waits, workers, calls, can in [
            ((), (AHEAD, AHEAD), ((0, 1, None, R),), True), (("done",), (AHEAD, done), (), False),
            (("done",), (done, AHEAD), (), False), (("done",), (done, done), ((0, 1, None, R),), True),
            (("drained",), (AHEAD, done), ((0, 1, None, R),), False), (("drained",), (AHEAD, done), ((1, 1, None, R),), True),
            (("drained",), (AHEAD, done), ((1, 1, None, R), (0, 1, None, R)), False), (("drained",), (AHEAD, done), (), True),
            (("done", "drained"), (done, done), ((0, 1, None, R),), False), (("done", "drained"), (done, done), (), True),
            (("done", "drained"), (done, ("behind", None)), (), False),
        ]:
            phases = [Phase("one", waits=waits), Phase("two", writers=("b",), waits=("done", "drained"))]
            rollout = Rollout(writers, Fill(COPY), phases, workers=2, hands=2)
            state = (0, R, None, 0, workers, calls)
            self.assertEqual(("next",) in self.deeds(rollout, state), can, (waits, workers, calls))
            if can:
                self.assertEqual(after(rollout, state, ("next",)), (1,) + state[1:])
            else:
                self.fails(NoMove, {"deed": ("next",)}, after, rollout, state, ("next",))
            self.assertNotIn(("next",), self.deeds(rollout, (1,) + state[1:]))

    def test_back(self):
        rollout = Rollout([Writer("w", KEEP)], Fill(COPY), [Phase("one"), Phase("two"), Phase("three")], back=[(2, 0), (2, 1)])
        for phase, deeds in [(0, {("next",)}), (1, {("next",)}), (2, {("back", 0), ("back", 1)})]:
            self.assertEqual(self.deeds(rollout, (phase, R, None, 0, (AHEAD,), ())), deeds)
        self.assertEqual(after(rollout, (2, R, None, 0, (AHEAD,), ()), ("back", 1)), (1, R, None, 0, (AHEAD,), ()))
        for deed in [("back", 2), ("back", -1), ("back", None), ("back", False), ("back",), ("back", 0, 0), ("back", "0")]:
            self.fails(NoMove, {"deed": deed}, after, rollout, (2, R, None, 0, (AHEAD,), ()), deed)

    def test_symbols_are_numbered_anew(self):
        rollout = one(READ, TAKE, promises=("kept",), hands=2, fill=("put", "copy", ()))
        state = (0, (0, 1), 2, 0, (("batch", (3, 4)),), ((0, 1, 5, (6, 7)),))
        self.assertEqual(after(rollout, state, ("set", 0)), (0, (0, 1), 2, 0, (("over", None),), ((0, 1, 3, (4, 5)),)))
        self.assertEqual(after(rollout, state, ("go", 0)), (0, (0, 1), 0, 0, (("batch", (2, 3)),), ()))
        self.assertEqual(after(rollout, state, ("call", "w", 4)),
                         (0, (0, 1), 2, 0, (("batch", (3, 4)),), ((0, 1, 5, (6, 7)), (0, 1, 4, (0, 1)))))

    def test_names_of_parameters(self):
        state = (0, R, None, 0, (AHEAD,), ())
        self.assertEqual(moves(state=state, rollout=example()), moves(example(), state))
        self.assertEqual(after(deed=("read", 0), state=state, rollout=example()), (0, R, None, 0, (("batch", R),), ()))

    def test_no_state_and_no_move(self):
        good = (0, R, None, 0, (AHEAD,), ())
        wrong = [list(good), good[:5], (1,) + good[1:], (0, (1, None)) + good[2:], (False,) + good[1:], (0, R, 0, 0, (AHEAD,), ())]
        for value in strange.values() + wrong:
            self.fails(NoState, {}, moves, example(), value)
            self.fails(NoState, {}, after, example(), value, ("read", 0))
            self.fails(NoState, {}, after, example(), value, 7)
        deeds = [("read", 1), ("read", -1), ("read", False), ("read", None), ("read",), ("read", 0, 0), ["read", 0], "read",
                 ("batch", 0), ("pass", 0), ("end", 0), ("set", 0), ("next",), ("back", 0), (), ("read", "0"), ("call", "old"),
                 ("call", "old", 7, 0), (("read", 0),), ("fall", 0), ("save", 0), ("again", 0), ("go", 0), (b"read", 0)]
        for value in strange.values():
            deeds += [value, (value,), ("go", value), ("call", "old", 0, value)]
            if type(value) is not str or value != "old":
                deeds.append(("call", value, 0))
            if type(value) is not int or value not in (0, 1):
                deeds.append(("call", "old", value))
            if type(value) is not int or value != 0:
                deeds.append(("read", value))
        for deed in deeds:
            self.fails(NoMove, {"deed": deed}, after, example(), good, deed)

    def test_lists_are_new(self):
        state = (0, R, None, 0, (AHEAD,), ())
        found = moves(example(), state)
        ahead = list(found)
        found.clear()
        self.assertEqual(moves(example(), state), ahead)
        self.assertEqual(state, (0, R, None, 0, (AHEAD,), ()))

    def test_states_behind_moves_are_states(self):
        for seed in range(40):
            rollout = made(seed)
            waiting, known = starts(rollout), set(starts(rollout))
            while waiting and len(known) < 150:
                state = waiting.pop(0)
                for deed, behind in moves(rollout, state):
                    self.assertIs(is_state(rollout, behind), True, (seed, state, deed, behind))
                    self.assertEqual(after(rollout, state, deed), behind)
                    if behind not in known:
                        known.add(behind)
                        waiting.append(behind)


class TestWalk(Case):
    def test_a_walk(self):
        deeds = [("read", 0), ("call", "old", 1), ("set", 0)]
        told = [(0, R, None, 0, (AHEAD,), ()), (0, R, None, 0, (("batch", R),), ()),
                (0, R, None, 0, (("batch", (1, None)),), ()), (0, (0, 1), None, 0, (("over", None),), ())]
        self.assertEqual(list(walk(example(), (1, deeds))), told)
        self.assertEqual(list(walk(history=(1, tuple(deeds)), rollout=example())), told)
        self.assertEqual(list(walk(example(), (0, []))), [(0, None, None, 0, (AHEAD,), ())])
        self.assertEqual(list(walk(example(), (1, ()))), told[:1])
        self.assertEqual(deeds, [("read", 0), ("call", "old", 1), ("set", 0)])

    def test_errors_come_while_it_is_iterated_over(self):
        self.assertTrue(inspect.isgeneratorfunction(walk))
        for value in strange.values():
            if type(value) is not Rollout:
                walked = walk(value, (0, []))
                self.fails(NoRollout, {"part": "rollout", "index": -1}, next, walked)
                self.fails(NoRollout, {"part": "rollout", "index": -1}, list, walk(value, 7))
        for value in [*strange.values(), [1, []], (1,), (1, [], 0), (2, []), (-1, []), (True, []), (False, []), (None, []),
                      ("1", []), (1, None), (1, {}), (1, "x"), (1, 0), (1, iter([])), ([], 1), (strange.GREAT, [])]:
            walked = walk(example(), value)
            self.fails(NoHistory, {"index": -1}, next, walked)

    def test_the_first_deed_that_cannot_be_done(self):
        for at in range(3):
            for value in strange.values() + [("save", 0), ("batch", 0), ["read", 0], ("read", False)]:
                deeds = [("read", 0), ("set", 0), ("save", 0)][:at] + [value, ("end", 0)]
                if value == ("save", 0) and at == 2:
                    continue
                walked = walk(example(), (1, deeds))
                for _ in range(at + 1):
                    next(walked)
                self.fails(NoHistory, {"index": at}, next, walked)
                self.assertEqual(list(walked), [])
