"""Points 31 to 34: what breaks, what can be reached, and whether a rollout holds."""

import random
import time

from fillbehind.errors import NoHistory, NoNumber, NoRollout, NoState, NoTable, NotNow, TooMany
from fillbehind.judging import breaks, check_history, check_table, judge, reached
from fillbehind.rollouts import Fill, Phase, Rollout, Writer
from fillbehind.runs import Run
from fillbehind.states import moves, starts, walk
from tests import strange
from tests.cases import SMALL, Case, levels
from tests.rolls import BOTH, COPY, KEEP, NOW, PROMISES, READ, TAKE, example, one, rollout as made, wide

AHEAD = ("ahead", None)
R = (0, None)


def model(promises, row, last, count):
    """What [16] tells, written a second time."""
    found = []
    for word in promises:
        if word == "right" and row is not None and row[0] != row[1]:
            found.append(word)
        if word == "mild" and row is not None and row[1] not in (None, row[0]):
            found.append(word)
        if word == "kept" and last != (row and row[0]):
            found.append(word)
        if word == "once" and count == 2:
            found.append(word)
    return tuple(found)


class TestBreaks(Case):
    def test_each_promise(self):
        for promises in [(), *[(word,) for word in PROMISES], ("right", "mild"), PROMISES, ("mild", "kept", "once")]:
            rollout = one(TAKE, promises=promises)
            for row in (None, R, (0, 0), (0, 1)):
                for last in (None, 0, 1, 2) if rollout.keeps else (None,):
                    for count in (0, 1, 2) if rollout.counts and row is not None else (0,):
                        seen = {value for value in (*(row or ()), last) if value is not None}
                        if seen == set(range(len(seen))):
                            state = (0, row, last, count, (AHEAD,), ())
                            told = breaks(rollout, state)
                            self.assertIs(type(told), tuple)
                            self.assertEqual(told, model(promises, row, last, count), (promises, state))

    def test_by_hand(self):
        for promises, row, last, count, told in [
            (("right",), R, None, 0, ("right",)), (("mild",), R, None, 0, ()), (("right", "mild"), (0, 1), None, 0, ("right", "mild")),
            (("right", "mild"), (0, 0), None, 0, ()), (("right", "mild"), None, None, 0, ()), (("kept",), R, 0, 0, ()),
            (("kept",), R, None, 0, ("kept",)), (("kept",), R, 1, 0, ("kept",)), (("kept",), None, None, 0, ()),
            (("kept",), None, 0, 0, ("kept",)), (("once",), R, None, 1, ()), (("once",), R, None, 2, ("once",)),
            (PROMISES, (0, 1), 1, 2, PROMISES),
        ]:
            self.assertEqual(breaks(one(TAKE, promises=promises), (0, row, last, count, (AHEAD,), ())), told)

    def test_the_phase_of_the_state(self):
        phases = [Phase("one"), Phase("two", promises=("right", "kept")), Phase("three", promises=("mild",))]
        rollout = Rollout([Writer("w", KEEP)], Fill(COPY), phases)
        for phase, told in [(0, ()), (1, ("right", "kept")), (2, ("mild",))]:
            self.assertEqual(breaks(state=(phase, (0, 1), 1, 0, (AHEAD,), ()), rollout=rollout), told)

    def test_errors(self):
        for value in strange.values():
            if type(value) is not Rollout:
                self.fails(NoRollout, {"part": "rollout", "index": -1}, breaks, value, 7)
            self.fails(NoState, {}, breaks, example(), value)
        self.fails(NoState, {}, breaks, example(), (0, (1, None), None, 0, (AHEAD,), ()))


class TestReached(Case):
    def test_all_states_once(self):
        for seed in SMALL:
            rollout = made(seed, small=True)
            found = reached(rollout)
            self.assertIs(type(found), list)
            self.assertEqual(len(set(found)), len(found))
            self.assertEqual(set(found), set(levels(rollout)))
        self.assertGreater(len(SMALL), 30)

    def test_by_hand(self):
        rollout = Rollout([Writer("w", ("delete", ()))], Fill(COPY), [Phase("one"), Phase("two", writers=("w",))])
        told = [(phase, row, None, 0, (AHEAD,), ()) for phase in (0, 1) for row in (None, R)]
        self.assertEqual(set(reached(rollout=rollout)), set(told))
        found = set(reached(example()))
        words = ["ahead", "batch", "over", "behind", "done"]
        for word in words:
            self.assertTrue(any(state[4][0][0] == word for state in found))
        self.assertIn((0, (0, 1), None, 0, (("over", None),), ()), found)

    def test_through_states_that_break_promises(self):
        for promises in [(), ("right",), ("right", "mild")]:
            self.assertEqual(len(reached(one(TAKE, promises=promises))), len(reached(one(TAKE))))

    def test_most(self):
        for seed in SMALL[:25]:
            rollout = made(seed, small=True)
            many = len(levels(rollout))
            self.assertEqual(len(reached(rollout, most=many)), many)
            self.assertEqual(len(reached(rollout, most=strange.GREAT)), many)
            for most in (1, many // 2, many - 1):
                if 1 <= most < many:
                    self.fails(TooMany, {"most": most}, reached, rollout, most=most)
                    self.fails(TooMany, {"most": most}, judge, rollout, most=most)
        self.fails(TooMany, {"most": 1}, reached, example(), most=1)

    def test_the_default(self):
        huge = Rollout([Writer("a", READ, READ, ("put", "copy", ()))], Fill(COPY), [Phase("one", writers=("a",), fills=True)],
                       workers=2, hands=2)
        more = Rollout([*huge.writers, Writer("b", TAKE), Writer("c", ("insert", "now"))], Fill(COPY, falls=True),
                       [Phase("one", writers=("a", "b", "c"), fills=True, promises=("right", "kept"))], workers=2, hands=2)
        ahead = time.monotonic()
        self.fails(TooMany, {"most": 2000}, reached, more)
        self.fails(TooMany, {"most": 2000}, judge, more)
        self.assertLess(time.monotonic() - ahead, 20)

    def test_errors(self):
        for call in (reached, judge):
            for value in strange.values():
                if type(value) is not Rollout:
                    self.fails(NoRollout, {"part": "rollout", "index": -1}, call, value)
                    self.fails(NoRollout, {"part": "rollout", "index": -1}, call, value, most=0)
                if type(value) is not int:
                    self.fails(NoNumber, {"part": "most"}, call, example(), most=value)
            for most in (0, -1, -strange.GREAT):
                self.fails(NoNumber, {"part": "most"}, call, example(), most=most)
            with self.assertRaises(TypeError):
                call(example(), 2000)


class TestJudge(Case):
    def test_example(self):
        rollout = example()
        word, (start, deeds) = judge(rollout)
        self.assertEqual((word, start, len(deeds)), ("breaks", 1, 3))
        self.assertIs(type(deeds), list)
        self.assertIs(check_history(rollout, (start, deeds)), None)
        self.assertIs(check_history(rollout, (1, [("read", 0), ("call", "old", 1), ("set", 0)])), None)
        self.assertEqual(judge(example(fill=NOW))[0], "breaks")
        self.assertEqual(list(walk(example(fill=NOW), judge(example(fill=NOW))[1]))[-1][1], (0, 1))
        word, table = judge(example(BOTH, NOW))
        self.assertEqual(word, "holds")
        self.assertIs(type(table), list)
        self.assertIs(check_table(example(BOTH, NOW), table), None)

    def test_another_example(self):
        rollout = one(BOTH, fill=NOW, promises=("mild", "once"), name="fresh")
        self.assertEqual(judge(rollout)[0], "holds")

    def test_a_start_that_breaks(self):
        rollout = one(BOTH, fill=NOW, promises=("right",))
        self.assertEqual(judge(rollout), ("breaks", (1, [])))

    def test_all_answers(self):
        holds = 0
        for seed in SMALL:
            rollout = made(seed, small=True)
            found = levels(rollout)
            bad = [found[state] for state in found if breaks(rollout, state)]
            word, answer = judge(rollout)
            self.assertEqual(judge(rollout), (word, answer))
            if not bad:
                holds += 1
                self.assertEqual(word, "holds")
                self.assertIs(check_table(rollout, answer), None)
                for state in answer:
                    self.assertEqual(breaks(rollout, state), ())
                    self.assertTrue({behind for _, behind in moves(rollout, state)} <= set(answer))
                self.assertTrue(set(starts(rollout)) <= set(answer))
            else:
                self.assertEqual(word, "breaks")
                self.assertIs(type(answer), tuple)
                self.assertIs(type(answer[1]), list)
                self.assertEqual(len(answer[1]), min(bad))
                self.assertNotIn("pass", [deed[0] for deed in answer[1]])
                self.assertIs(check_history(rollout, answer), None)
                self.fails(NoTable, {"index": self.first_bad(rollout, list(found))}, check_table, rollout, list(found))
        self.assertGreater(holds, 5)
        self.assertLess(holds, len(SMALL) - 5)

    def first_bad(self, rollout, states):
        return [bool(breaks(rollout, state)) for state in states].index(True)

    def test_too_many_comes_before_the_answer(self):
        rollout = one(BOTH, fill=NOW, promises=("right",))
        self.assertEqual(judge(rollout)[1], (1, []))
        self.fails(TooMany, {"most": 2}, judge, rollout, most=2)
        many = len(reached(rollout))
        self.fails(TooMany, {"most": many - 1}, judge, rollout, most=many - 1)
        self.assertEqual(judge(rollout, most=many), ("breaks", (1, [])))

    def test_runs_of_what_holds(self):
        for seed in [seed for seed in SMALL if judge(made(seed, small=True))[0] == "holds"]:
            rollout = made(seed, small=True)
            chance = random.Random(seed)
            run = Run(rollout, {1: 4, 2: 4, 5: 0})
            words = [("batch", 0), ("set", 0), ("save", 0), ("fall", 0), ("again", 0), ("next",), ("back", 0)]
            for _ in range(300):
                deeds = [*words, ("go", chance.randrange(max(1, run.begun)))]
                for writer in rollout.writers:
                    value = chance.choice([0, 4, 9]) if writer.needs_input else None
                    deeds.append(("call", writer.name, chance.choice([1, 2, 3]), value))
                try:
                    run.do(chance.choice(deeds))
                except NotNow:
                    pass
                self.assertIs(run.broken(), None)

    def test_rows_in_a_batch_have_no_effect(self):
        for seed in SMALL[:15]:
            rollout = made(seed, small=True)
            fill = rollout.fill
            other = Fill(fill.statement, batch=100, save=fill.save, lock=fill.lock, only_missing=fill.only_missing,
                         falls=fill.falls, again=fill.again)
            other = Rollout(rollout.writers, other, rollout.phases, workers=rollout.workers, hands=rollout.hands,
                            back=rollout.back)
            self.assertEqual(judge(other), judge(rollout))


class TestCheckTable(Case):
    def setUp(self):
        self.rollout = example(BOTH, NOW)
        self.table = judge(self.rollout)[1]

    def wrong(self, index, table):
        self.fails(NoTable, {"index": index}, check_table, self.rollout, table)

    def test_good_tables(self):
        self.assertIs(check_table(self.rollout, tuple(self.table)), None)
        self.assertIs(check_table(table=self.table[::-1], rollout=self.rollout), None)
        self.assertIs(check_table(self.rollout, self.table + self.table[3:]), None)
        beyond = (0, (0, 0), None, 0, (("batch", (1, 2)),), ())
        self.assertNotIn(beyond, self.table)
        closed = self.table + [beyond, (0, (0, 0), None, 0, (("batch", (0, 1)),), ()), (0, R, None, 0, (("batch", (0, 1)),), ()),
                               (0, R, None, 0, (("batch", (1, 2)),), ()), (0, R, None, 0, (("batch", (1, 0)),), ())]
        self.assertIs(check_table(self.rollout, closed + [(0, (0, 0), None, 0, (("batch", (1, 0)),), ())]), None)
        ahead = list(self.table)
        check_table(self.rollout, self.table)
        self.assertEqual(self.table, ahead)

    def test_no_list(self):
        for value in strange.values():
            if not isinstance(value, (list, tuple)):
                self.wrong(-1, value)
        self.wrong(-1, {state: 1 for state in self.table})

    def test_items(self):
        wrong = (0, (0, 1), None, 0, (AHEAD,), ())
        self.assertEqual(breaks(self.rollout, wrong), ("mild",))
        for at in (0, 3, len(self.table)):
            for value in [*strange.values(), wrong, list(self.table[0]), (1,) + self.table[0][1:], (0, (1, 1), None, 0, (AHEAD,), ())]:
                self.wrong(at, self.table[:at] + [value] + self.table[at:])
                self.wrong(at, tuple(self.table[:at]) + (value, 7))
        self.wrong(1, self.table[:1] + [7])

    def test_starts(self):
        for start in starts(self.rollout):
            table = [state for state in self.table if state != start]
            self.wrong(len(table), table)
            self.wrong(2 * len(table), table + table)
        self.wrong(0, [])
        self.wrong(1, [starts(self.rollout)[1]])
        self.wrong(1, [self.table[5]])

    def test_moves(self):
        self.wrong(0, starts(self.rollout))
        for gone in self.table:
            if gone not in starts(self.rollout):
                table = [state for state in self.table if state != gone]
                leads = [any(behind == gone for _, behind in moves(self.rollout, state)) for state in table]
                self.wrong(leads.index(True), table)

    def test_what_comes_first(self):
        self.wrong(2, starts(self.rollout) + [7])
        self.wrong(1, [self.table[5], 7])
        self.wrong(1, [starts(self.rollout)[1]])

    def test_no_rollout(self):
        for value in strange.values():
            if type(value) is not Rollout:
                self.fails(NoRollout, {"part": "rollout", "index": -1}, check_table, value, 7)
                self.fails(NoRollout, {"part": "rollout", "index": -1}, check_history, value, 7)


class TestCheckHistory(Case):
    def wrong(self, index, history):
        self.fails(NoHistory, {"index": index}, check_history, example(), history)

    def test_histories(self):
        deeds = [("read", 0), ("call", "old", 1), ("set", 0)]
        self.assertIs(check_history(history=(1, tuple(deeds)), rollout=example()), None)
        self.assertIs(check_history(example(), (1, [("call", "old", 0), *deeds])), None)
        self.assertIs(check_history(example(), (1, [*deeds, ("save", 0)])), None)
        for many in range(3):
            self.wrong(many, (1, deeds[:many]))
        self.wrong(0, (0, ()))
        self.wrong(4, (1, [*deeds, ("call", "old", 1)]))

    def test_errors_of_walk(self):
        deeds = [("read", 0), ("call", "old", 1), ("set", 0)]
        for value in [*strange.values(), [1, deeds], (1,), (2, deeds), (True, deeds), (1, deeds, 0), (1, iter(deeds))]:
            self.wrong(-1, value)
        for at in range(4):
            for value in [*strange.values(), ("next",), ("set", 1), ["read", 0]]:
                self.wrong(at, (1, [*deeds[:at], value, ("set", 0)]))
        self.wrong(0, (0, deeds))


class TestTime(Case):
    def test_some_hundreds_of_states_and_more(self):
        ahead = time.monotonic()
        for many in (1, 2, 3, 4):
            rollout = wide(many)
            states = reached(rollout)
            word, table = judge(rollout)
            self.assertEqual((word, len(table)), ("holds", len(states)))
            self.assertIs(check_table(rollout, table), None)
        self.assertGreater(len(states), 300)
        self.assertLess(time.monotonic() - ahead, 30)

    def test_long_histories(self):
        ahead = time.monotonic()
        deeds = [("call", "a", 0), ("call", "a", 1), ("call", "b", None), ("go", 0)] * 500
        self.fails(NoHistory, {"index": 2000}, check_history, wide(1), (1, deeds))
        self.assertLess(time.monotonic() - ahead, 20)
