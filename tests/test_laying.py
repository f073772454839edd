"""Point 36: histories laid on tables."""

import inspect
import random
import time

from fillbehind.errors import NoHistory, NoNumber, NoRollout
from fillbehind.judging import judge
from fillbehind.laying import laid
from fillbehind.rollouts import Fill, Phase, Rollout, Writer
from fillbehind.runs import Run
from fillbehind.seen import seen_at, values_at
from fillbehind.states import moves, starts, walk
from tests import strange
from tests.cases import SMALL, Case, no_integers, no_rollouts
from tests.rolls import BOTH, KEEP, NOW, READ, TAKE, example, one, rollout as made, wide

DEEDS = [("read", 0), ("call", "old", 1), ("set", 0)]


def wandered(rollout, chance, many, passes=False):
    """A history of so many deeds or fewer, taken by chance."""
    start = chance.choice([0, 1])
    state, deeds = starts(rollout)[start], []
    for _ in range(many):
        found = [pair for pair in moves(rollout, state) if passes or pair[0][0] != "pass"]
        if not found:
            break
        deed, state = chance.choice(found)
        deeds.append(deed)
    return (start, deeds)


class TestLaid(Case):
    def follows(self, rollout, history, key, first):
        """Lay a history, do its deeds, and look at each state and each integer on the way."""
        rows, deeds = laid(rollout, history, key=key, first=first)
        self.assertEqual((type(rows), type(deeds)), (dict, list))
        self.assertEqual(rows, {key: first} if history[0] == 1 else {})
        unused = first + history[0]
        run = Run(rollout, rows)
        states = list(walk(rollout, history))
        self.assertEqual(seen_at(run, key), states[0])
        self.assertEqual(len(deeds), len(history[1]))
        for state, move, deed in zip(states[1:], history[1], deeds):
            values = values_at(run, key)
            if deed[0] == "call":
                self.assertEqual(deed[:3], ("call", move[1], key))
                if move[2] is None:
                    self.assertIs(deed[3], None)
                elif move[2] < len(values):
                    self.assertEqual(deed[3], values[move[2]])
                else:
                    self.assertEqual(deed[3], unused)
                    unused += 1
            run.do(deed)
            self.assertEqual(seen_at(run, key), state)
            self.assertLessEqual(len(run), 1)
        return rows, deeds

    def test_example(self):
        told = ({7: 3}, [("batch", 0), ("call", "old", 7, 4), ("set", 0)])
        self.assertEqual(laid(example(), (1, DEEDS), key=7, first=3), told)
        self.assertEqual(laid(history=(1, tuple(DEEDS)), first=3, rollout=example(), key=7), told)
        self.assertEqual(str(inspect.signature(laid)), "(rollout, history, *, key=0, first=0)")

    def test_defaults_and_other_integers(self):
        self.assertEqual(laid(example(), (1, DEEDS)), ({0: 0}, [("batch", 0), ("call", "old", 0, 1), ("set", 0)]))
        self.assertEqual(
            laid(example(), (1, DEEDS), key=-4, first=-1), ({-4: -1}, [("batch", 0), ("call", "old", -4, 0), ("set", 0)]))
        great = strange.GREAT
        self.assertEqual(
            laid(example(), (1, DEEDS), key=-great, first=great),
            ({-great: great}, [("batch", 0), ("call", "old", -great, great + 1), ("set", 0)]))
        # The key is no value: an integer that is the key may be used.
        self.assertEqual(laid(example(), (1, DEEDS), key=1)[1][1], ("call", "old", 1, 1))

    def test_no_deeds(self):
        self.assertEqual(laid(example(), (0, [])), ({}, []))
        self.assertEqual(laid(example(), (1, ()), key=3, first=9), ({3: 9}, []))
        self.assertEqual(laid(example(), (0, ()), key=3, first=9), ({}, []))

    def test_an_integer_that_is_gone_is_not_used_again(self):
        moved = [("call", "w", 1), ("call", "w", 1), ("call", "w", 0), ("call", "w", 1)]
        rollout = one(TAKE)
        told = [("call", "w", 5, 3), ("call", "w", 5, 4), ("call", "w", 5, 4), ("call", "w", 5, 5)]
        self.assertEqual(laid(rollout, (1, moved), key=5, first=2), ({5: 2}, told))
        gone = one(("insert", "none"), writers=[Writer("x", ("delete", ()))])
        moved = [("call", "w", 0), ("call", "x", None), ("call", "w", 0), ("call", "w", 0), ("call", "w", 1)]
        told = [("call", "w", 0, 0), ("call", "x", 0, None), ("call", "w", 0, 1), ("call", "w", 0, 1), ("call", "w", 0, 2)]
        self.assertEqual(laid(gone, (0, moved)), ({}, told))

    def test_a_value_behind_the_old_one(self):
        told = laid(one(TAKE), (1, [("call", "w", 1), ("call", "w", 0)]), first=6)
        self.assertEqual(told, ({0: 6}, [("call", "w", 0, 7), ("call", "w", 0, 7)]))

    def test_a_symbol_of_what_was_seen_or_is_last(self):
        rollout = one(TAKE, promises=("kept",), fill=("set", "read", "read", ()))
        moved = [("read", 0), ("call", "w", 1), ("set", 0), ("call", "w", 1)]
        # The row is (0, 0) again, and its last is 1: the input of the second call.
        told = [("batch", 0), ("call", "w", 0, 1), ("set", 0), ("call", "w", 0, 1)]
        self.assertEqual(laid(rollout, (1, moved)), ({0: 0}, told))

    def test_numbers_of_calls(self):
        rollout = one(READ, KEEP, hands=2, writers=[Writer("x", BOTH)])
        moved = [("call", "x", 0), ("call", "w", None), ("call", "x", 1), ("call", "w", None), ("go", 1), ("call", "w", None),
                 ("go", 1), ("go", 0)]
        told = [("call", "x", 0, 0), ("call", "w", 0, None), ("call", "x", 0, 1), ("call", "w", 0, None), ("go", 3),
                ("call", "w", 0, None), ("go", 4), ("go", 1)]
        self.assertEqual(laid(rollout, (1, moved)), ({0: 0}, told))

    def test_all_words(self):
        phases = [Phase("one", writers=("a",), fills=True), Phase("two", fills=True)]
        rollout = Rollout([Writer("a", BOTH)], Fill(NOW, save="first", falls=True, again=True), phases, back=[(1, 0)])
        moved = [("read", 0), ("save", 0), ("fall", 0), ("end", 0), ("again", 0), ("next",), ("back", 0), ("read", 0),
                 ("fall", 0), ("read", 0), ("save", 0), ("set", 0), ("end", 0)]
        told = [("batch", 0), ("save", 0), ("fall", 0), ("batch", 0), ("again", 0), ("next",), ("back", 0), ("batch", 0),
                ("fall", 0), ("batch", 0), ("save", 0), ("set", 0), ("batch", 0)]
        self.assertEqual(laid(rollout, (1, moved), key=2), ({2: 0}, told))
        self.follows(rollout, (1, moved), 2, 0)
        self.assertEqual(laid(rollout, (0, [("end", 0)])), ({}, [("batch", 0)]))

    def test_two_workers(self):
        rollout = one(BOTH, workers=2, fill=("put", "read", ()), only_missing=True)
        moved = [("read", 1), ("read", 0), ("set", 1), ("save", 1), ("end", 1), ("set", 0)]
        told = [("batch", 1), ("batch", 0), ("set", 1), ("save", 1), ("batch", 1), ("set", 0)]
        self.assertEqual(laid(rollout, (1, moved)), ({0: 0}, told))
        # A row that is not missing is not read: the worker is done.
        self.assertEqual(laid(rollout, (1, [("call", "w", 0), ("end", 0)])), ({0: 0}, [("call", "w", 0, 0), ("batch", 0)]))

    def test_histories_by_chance(self):
        words = set()
        for seed in range(120):
            rollout = made(seed)
            chance = random.Random(seed)
            for _ in range(4):
                history = wandered(rollout, chance, 30)
                rows, deeds = self.follows(rollout, history, chance.choice([0, 7, -3]), chance.choice([0, 5, -2]))
                words |= {deed[0] for deed in deeds}
        self.assertEqual(words, {"call", "go", "batch", "set", "save", "fall", "again", "next", "back"})

    def test_what_breaks_is_broken_on_the_table(self):
        many = 0
        for seed in SMALL:
            rollout = made(seed, small=True)
            word, history = judge(rollout)
            if word == "breaks":
                many += 1
                rows, deeds = laid(rollout, history, key=4, first=1)
                run = Run(rollout, rows)
                self.assertEqual([told for told in run.play(deeds)][:-1], [None] * (len(deeds) - 1) if deeds else [])
                self.assertEqual(run.broken()[0], 4)
        self.assertGreater(many, 10)

    def test_nothing_is_changed_and_all_is_new(self):
        deeds = list(DEEDS)
        history = (1, deeds)
        rows, told = laid(example(), history)
        self.assertEqual(deeds, DEEDS)
        rows[9] = 9
        told.append(("next",))
        deeds.append(("nothing",))
        self.assertEqual(laid(example(), (1, DEEDS)), ({0: 0}, [("batch", 0), ("call", "old", 0, 1), ("set", 0)]))
        deeds = []
        self.assertIsNot(laid(example(), (0, deeds))[1], deeds)

    def test_long_histories(self):
        ahead = time.monotonic()
        moved = [("call", "a", 0), ("call", "a", 1), ("call", "b", None), ("go", 0)] * 500
        rows, deeds = laid(wide(1), (1, moved))
        self.assertEqual(deeds[-4:], [("call", "a", 0, 499), ("call", "a", 0, 500), ("call", "b", 0, None), ("go", 1499)])
        self.assertLess(time.monotonic() - ahead, 20)


class TestErrors(Case):
    def wrong(self, index, history, rollout=None, **more):
        self.fails(NoHistory, {"index": index}, laid, rollout or example(), history, **more)

    def test_no_rollout(self):
        for value in no_rollouts():
            self.fails(NoRollout, {"part": "rollout", "index": -1}, laid, value, (1, DEEDS))
            self.fails(NoRollout, {"part": "rollout", "index": -1}, laid, value, 7, key="x", first="x")

    def test_no_history(self):
        for value in [*strange.values(), [1, DEEDS], (1,), (2, DEEDS), (True, DEEDS), (1, DEEDS, 0), (1, iter(DEEDS))]:
            self.wrong(-1, value)
            self.wrong(-1, value, key="x", first="x")

    def test_deeds_that_cannot_be_done(self):
        for at in range(4):
            for value in [*strange.values(), ("next",), ("set", 1), ["read", 0], ("call", "old", 3), ("batch", 0)]:
                self.wrong(at, (1, [*DEEDS[:at], value, ("set", 0)]))
                self.wrong(at, (1, (*DEEDS[:at], value)), key="x", first="x")

    def test_passes(self):
        rollout = one(BOTH, only_missing=True, again=True)
        self.wrong(0, (0, [("pass", 0)]))
        self.wrong(0, (0, [("pass", 0), ("save", 0), ("pass", 0)]))
        self.wrong(1, (1, [("call", "w", 1), ("pass", 0), ("save", 0)]), rollout)
        self.wrong(2, (0, (("end", 0), ("again", 0), ("pass", 0))), rollout)
        self.wrong(2, (0, (("end", 0), ("again", 0), ("pass", 0))), rollout, key="x", first="x")
        # What comes first is told: a pass, a pass that cannot be done, or another deed that cannot.
        self.wrong(0, (0, [("pass", 0), ("next",)]))
        self.wrong(0, (0, [("next",), ("pass", 0)]))
        self.wrong(0, (1, [("pass", 0)]))
        self.wrong(1, (0, [("end", 0), ("pass", 0)]))
        self.wrong(1, (0, [("end", 0), ("save", 0), ("pass", 0)]))

    def test_numbers(self):
        for value in no_integers():
            self.fails(NoNumber, {"part": "key"}, laid, example(), (1, DEEDS), key=value)
            self.fails(NoNumber, {"part": "key"}, laid, example(), (0, []), key=value, first=value)
            self.fails(NoNumber, {"part": "first"}, laid, example(), (1, DEEDS), first=value)
            self.fails(NoNumber, {"part": "first"}, laid, example(), (0, []), first=value)

    def test_parameters_behind_the_star(self):
        with self.assertRaises(TypeError):
            laid(example(), (1, DEEDS), 0)
        with self.assertRaises(TypeError):
            laid(example(), (1, DEEDS), 0, 0)
