"""Point 29: the state of one key in a run; and the facts that tie runs to the moves of one row."""

import copy
import itertools
import random
import unittest

from fillbehind.errors import NoNumber, NoRun, NotNow
from fillbehind.rollouts import Writer
from fillbehind.runs import Run
from fillbehind.seen import seen_at, values_at
from fillbehind.states import after, is_state, moves, starts, symbols
from tests import strange
from tests.rolls import BOTH, COPY, KEEP, NOW, READ, TAKE, example, one, rollout as made

AHEAD = ("ahead", None)


def run_behind(rollout, rows, *deeds):
    run = Run(rollout, rows)
    for deed in deeds:
        run.do(deed)
    return run


class TestSeenAt(unittest.TestCase):
    def test_example(self):
        run = run_behind(example(), {7: 3}, ("batch", 0), ("call", "old", 7, 5), ("set", 0))
        self.assertEqual(seen_at(run, 7), (0, (0, 1), None, 0, (("over", None),), ()))
        self.assertEqual(values_at(run, 7), [5, 3])
        self.assertEqual(seen_at(run, 9), (0, None, None, 0, (AHEAD,), ()))
        self.assertEqual(values_at(run, 9), [])
        self.assertEqual(seen_at(key=7, run=run), seen_at(run, 7))
        self.assertEqual(values_at(key=7, run=run), [5, 3])
        values_at(run, 7).clear()
        self.assertEqual(values_at(run, 7), [5, 3])

    def words(self, run, keys):
        return [seen_at(run, key)[4][0] for key in keys]

    def test_words_of_a_worker_that_saves_last(self):
        run = run_behind(one(KEEP, batch=2, falls=True), {2: 9, 4: 8, 6: 7})
        seen = [("batch", (0, None)), ("batch", (0, None))]
        over, behind, done = ("over", None), ("behind", None), ("done", None)
        keys = range(1, 8)
        for deed, told in [
            (None, [AHEAD] * 7),
            (("batch", 0), [over, seen[0], over, seen[1], AHEAD, AHEAD, AHEAD]),
            (("set", 0), [over, over, over, seen[1], AHEAD, AHEAD, AHEAD]),
            (("set", 0), [over] * 4 + [AHEAD] * 3),
            (("save", 0), [behind] * 4 + [AHEAD] * 3),
            (("batch", 0), [behind] * 4 + [over, seen[0], AHEAD]),
            (("fall", 0), [behind] * 4 + [AHEAD] * 3),
            (("batch", 0), [behind] * 4 + [over, seen[0], AHEAD]),
            (("set", 0), [behind] * 4 + [over, over, AHEAD]),
            (("save", 0), [behind] * 6 + [AHEAD]),
            (("batch", 0), [done] * 7),
        ]:
            if deed is not None:
                run.do(deed)
            self.assertEqual(self.words(run, keys), told, deed)

    def test_words_of_a_worker_that_saves_first(self):
        run = run_behind(one(KEEP, batch=2, save="first", falls=True, again=True), {2: 9, 4: 8, 6: 7})
        over, behind, row = ("over", None), ("behind", None), (0, None)
        keys = range(1, 8)
        for deed, told in [
            (("batch", 0), [over, ("batch", row), over, ("batch", row), AHEAD, AHEAD, AHEAD]),
            (("save", 0), [behind, ("late", row), behind, ("late", row), AHEAD, AHEAD, AHEAD]),
            (("set", 0), [behind, behind, behind, ("late", row), AHEAD, AHEAD, AHEAD]),
            (("fall", 0), [behind] * 4 + [AHEAD] * 3),
            (("batch", 0), [behind] * 4 + [over, ("batch", row), AHEAD]),
            (("fall", 0), [behind] * 4 + [AHEAD] * 3),
            (("batch", 0), [behind] * 4 + [over, ("batch", row), AHEAD]),
            (("save", 0), [behind] * 5 + [("late", row), AHEAD]),
            (("set", 0), [behind] * 6 + [AHEAD]),
            (("batch", 0), [("done", None)] * 7),
            (("again", 0), [AHEAD] * 7),
        ]:
            run.do(deed)
            self.assertEqual(self.words(run, keys), told, deed)

    def test_last_and_count(self):
        writers = [Writer("gone", ("delete", ()))]
        turn = [("batch", 0), ("set", 0), ("fall", 0)]
        for promises, last, count in [((), None, (0, 0, 0)), (("kept",), 0, (0, 0, 0)), (("once",), None, (1, 2, 2)),
                                      (("kept", "once"), 0, (1, 2, 2))]:
            run = Run(one(TAKE, fill=NOW, promises=promises, falls=True, writers=writers), {7: 3})
            self.assertEqual(seen_at(run, 7)[1:4], ((0, None), last, 0))
            for many in count:
                for deed in turn:
                    run.do(deed)
                self.assertEqual(seen_at(run, 7)[1:4], ((0, 0), last, many))
            self.assertEqual(run.count(7), 3)
            run.do(("call", "gone", 7, None))
            self.assertEqual(seen_at(run, 7)[1:4], (None, None, 0))
        run = run_behind(one(TAKE, fill=("set", "read", "now", ()), promises=("kept",)), {7: 3}, ("batch", 0),
                         ("call", "w", 7, 5), ("set", 0))
        self.assertEqual((seen_at(run, 7)[1:3], values_at(run, 7)), (((0, 0), 1), [3, 5]))

    def test_calls(self):
        writers = [Writer("x", TAKE, KEEP), Writer("y", KEEP)]
        run = run_behind(one(READ, READ, ("put", "now", ()), hands=2, writers=writers), {7: 3, 8: 3}, ("call", "y", 7, None),
                         ("call", "w", 8, None), ("call", "w", 7, None), ("call", "x", 7, 5), ("call", "x", 9, 5), ("go", 2))
        self.assertEqual(seen_at(run, 7), (0, (0, None), None, 0, (AHEAD,), ((0, 2, None, (0, None)), (1, 1, 0, None))))
        self.assertEqual(values_at(run, 7), [5])
        self.assertEqual(seen_at(run, 8), (0, (0, None), None, 0, (AHEAD,), ((0, 1, None, (0, None)),)))
        self.assertEqual(seen_at(run, 9), (0, None, None, 0, (AHEAD,), ((1, 1, 0, None),)))
        self.assertEqual(seen_at(run, 6), (0, None, None, 0, (AHEAD,), ()))

    def test_order_of_the_symbols(self):
        take = Writer("take", BOTH)
        rollout = one(READ, ("set", "input", "keep", ()), fill=COPY, workers=2, hands=2, promises=("kept",), writers=[take])
        run = run_behind(rollout, {7: 30}, ("batch", 0), ("call", "w", 7, 31), ("call", "take", 7, 32), ("batch", 1),
                         ("call", "w", 7, 33), ("call", "take", 7, 34), ("set", 0))
        self.assertEqual(values_at(run, 7), [34, 30, 32, 31, 33])
        self.assertEqual(seen_at(run, 7), (0, (0, 1), 0, 0, (("over", None), ("batch", (2, 2))),
                                           ((0, 1, 3, (1, None)), (0, 1, 4, (2, 2)))))

    def test_great_numbers_and_the_phase(self):
        great = strange.GREAT
        run = run_behind(example(), {great: -great}, ("batch", 0), ("call", "old", great, great), ("set", 0))
        self.assertEqual(values_at(run, great), [great, -great])
        self.assertEqual(seen_at(run, great)[1], (0, 1))
        self.assertEqual(seen_at(run, -great)[4], (("over", None),))

    def test_errors(self):
        run = Run(example(), {7: 3})
        for call in (seen_at, values_at):
            for value in strange.values():
                for key in (7, None) if type(value) is not Run else ():
                    with self.assertRaises(NoRun) as caught:
                        call(value, key)
                    self.assertEqual(vars(caught.exception), {"part": "run"})
                if type(value) is not int:
                    with self.assertRaises(NoNumber) as caught:
                        call(run, value)
                    self.assertEqual(vars(caught.exception), {"part": "key"})

    def test_at_the_beginning_each_key_is_at_a_start(self):
        for seed in range(40):
            run = Run(made(seed), {1: 5, 3: 5, 4: 0})
            for key in range(6):
                self.assertEqual(seen_at(run, key), starts(made(seed))[key in run])


def all_deeds(run, keys, values):
    """All tuples that may be deeds of a run, with these keys and values."""
    rollout = run.rollout
    for writer in rollout.writers:
        inputs = values if writer.needs_input else [None]
        yield from (("call", writer.name, key, value) for key in keys for value in inputs)
    yield from (("go", call[0]) for call in run.calls())
    yield from itertools.product(("batch", "set", "save", "fall", "again"), range(rollout.workers))
    yield ("next",)
    yield from (("back", phase) for phase in range(len(rollout)))


def doable(run, keys, values):
    """The deeds that a run can do, each with the run behind it."""
    for deed in all_deeds(run, keys, values):
        other = copy.deepcopy(run, {id(run.rollout): run.rollout})
        try:
            other.do(deed)
        except NotNow:
            continue
        yield deed, other


class TestFacts(unittest.TestCase):
    def move_of(self, rollout, run, state, deed):
        """The move of a table with the row of key 5 alone that a deed of its run makes."""
        if deed[0] == "call":
            values = values_at(run, 5)
            known = {value: at for at, value in enumerate(values)}
            return ("call", deed[1], deed[3] if deed[3] is None else known.get(deed[3], len(values)))
        if deed[0] == "go":
            return ("go", [call[0] for call in run.calls()].index(deed[1]))
        if deed[0] == "batch":
            worker = state[4][deed[1]][0]
            passes = state[1] is None or (rollout.fill.only_missing and state[1][1] is not None)
            return ("end" if worker == "behind" or passes else "read", deed[1])
        return deed

    def test_runs_on_one_row_do_just_the_moves_without_pass(self):
        many = 0
        for seed in range(60):
            rollout = made(seed, small=True)
            for start, rows in enumerate([{}, {5: 40}]):
                run = Run(rollout, rows)
                waiting = {seen_at(run, 5): run}
                self.assertEqual(list(waiting), [starts(rollout)[start]])
                known = set()
                while waiting and len(known) < 40:
                    state, run = waiting.popitem()
                    known.add(state)
                    many += 1
                    fresh = 41 + run.begun
                    found = {}
                    for deed, other in doable(run, [5], [*values_at(run, 5), fresh]):
                        move = self.move_of(rollout, run, state, deed)
                        self.assertNotIn(move, found)
                        found[move] = seen_at(other, 5)
                        if found[move] not in known:
                            waiting[found[move]] = other
                    told = {deed: behind for deed, behind in moves(rollout, state) if deed[0] != "pass"}
                    self.assertEqual(found, told, (seed, state))
        self.assertGreater(many, 800)

    def test_each_deed_on_any_table_leaves_the_state_or_makes_a_move(self):
        words = set()
        for seed in range(120):
            chance = random.Random(seed)
            rollout = made(seed)
            keys, values = [1, 2, 3, 4], [0, 1, 2]
            run = Run(rollout, {key: chance.choice(values) for key in keys if chance.random() < 0.7})
            for _ in range(60):
                states = {key: seen_at(run, key) for key in keys}
                deeds = [deed for deed, _ in doable(run, keys, values)]
                if not deeds:
                    break
                # A call is only one of many deeds that could be drawn otherwise.
                kind = chance.choice(sorted({deed[0] for deed in deeds}))
                run.do(chance.choice([deed for deed in deeds if deed[0] == kind]))
                for key in keys:
                    state = seen_at(run, key)
                    self.assertIs(is_state(rollout, state), True)
                    self.assertEqual(len(values_at(run, key)), symbols(state))
                    if state != states[key]:
                        found = [deed[0] for deed, behind in moves(rollout, states[key]) if behind == state]
                        self.assertNotEqual(found, [], (seed, key, states[key], state))
                        words.update(found)
        self.assertEqual(words, {"call", "go", "read", "pass", "set", "save", "end", "fall", "again", "next", "back"})

    def test_a_pass_as_it_happens_on_tables(self):
        for save in ("last", "first"):
            run = run_behind(one(NOW, save=save, batch=2, only_missing=True), {2: 1, 4: 1, 6: 1}, ("call", "w", 4, None))
            ahead = [seen_at(run, key) for key in range(1, 7)]
            run.do(("batch", 0))
            behind = [seen_at(run, key) for key in range(1, 7)]
            told = ["pass", "read", "pass", "pass", "pass", "read"]
            for at, word in enumerate(told):
                self.assertEqual(after(run.rollout, ahead[at], (word, 0)), behind[at])

    def test_which_integers_stand_for_the_symbols_has_no_effect(self):
        for seed in range(30):
            rollout = made(seed)
            chance = random.Random(seed)
            names = {0: 10 ** 50, 1: -7, 2: 3, 3: 0}
            one_run, other = Run(rollout, {1: 0, 2: 1}), Run(rollout, {1: names[0], 2: names[1]})
            for _ in range(25):
                deeds = [deed for deed, _ in doable(one_run, [1, 2, 3], [0, 1, 2, 3])]
                if not deeds:
                    break
                deed = chance.choice(deeds)
                one_run.do(deed)
                other.do(deed[:3] + (names[deed[3]],) if deed[0] == "call" and deed[3] is not None else deed)
                for key in (1, 2, 3):
                    self.assertEqual(seen_at(one_run, key), seen_at(other, key))
                    self.assertEqual([names[value] for value in values_at(one_run, key)], values_at(other, key))
                self.assertEqual(one_run.broken(), other.broken())
