"""Points 1 to 4, over the whole program."""

import copy
import random

from fillbehind import counts, desks, ends, judging, laying, repairs, sights, states, texts, ways
from fillbehind.errors import NoRollout, NoRun, NotNow, TooMany
from fillbehind.rollouts import Fill, Phase, Rollout, Writer
from fillbehind.runs import Run
from fillbehind.seen import seen_at
from tests import strange
from tests.cases import SMALL, Case, levels
from tests.rolls import BOTH, NOW, TAKE, example, rollout as made
from tests.test_seen import all_deeds

BEGIN = (0, (0, None), None, 0, (("ahead", None),), ())
HISTORY = (1, [("read", 0), ("call", "old", 1), ("set", 0)])
SOME = [("fill", "same old"), ("fill", "lock")]


def two():
    """A rollout with two phases, of which the second is spare."""
    return Rollout(example().writers, example().fill, [*example().phases, Phase("two")])


def functions():
    """All functions that take a rollout, each with further arguments that can be passed by their names."""
    return [
        (states.is_state, {"state": BEGIN}), (states.starts, {}), (states.after, {"state": BEGIN, "deed": ("read", 0)}),
        (states.moves, {"state": BEGIN}), (lambda rollout, history: list(states.walk(rollout=rollout, history=history)), {"history": HISTORY}),
        (judging.breaks, {"state": BEGIN}), (judging.reached, {"most": 99}), (judging.judge, {"most": 99}),
        (judging.check_table, {"table": judging.reached(two())}), (judging.check_history, {"history": HISTORY}),
        (laying.laid, {"history": HISTORY, "key": 4, "first": 2}), (sights.sights, {"most": 99}),
        (sights.sight, {"phase": 0, "word": "wrong", "most": 99}), (counts.does_fill, {"state": BEGIN, "deed": ("read", 0)}),
        (counts.most_fills, {"most": 99}), (counts.check_fills, {"answer": counts.most_fills(two())}),
        (ends.always_ends, {"most": 99}), (ends.check_ends, {"answer": ends.always_ends(two())}), (repairs.options, {}),
        (repairs.verdicts, {"some": SOME, "most": 99}), (repairs.least_repairs, {"some": SOME, "most": 99}),
        (ways.without, {"phase": 1}), (ways.with_way, {"phase": 1, "earlier": 0}), (ways.spare_phases, {"most": 99}),
        (ways.ways_back, {"most": 99}), (texts.show_rollout, {}), (desks.Desk, {}),
    ]


def told(call, given):
    """What a call tells, or the error that it raises."""
    try:
        found = call(rollout=two(), **given)
    except ValueError as why:
        return (type(why), vars(why))
    return found.told() if type(found) is desks.Desk else found


class TestRollouts(Case):
    def test_what_is_none_is_refused_ahead_of_all_else(self):
        for call, given in functions():
            for value in strange.values():
                if type(value) is not Rollout:
                    wrong = {"part": "rollout", "index": -1}
                    self.fails(NoRollout, wrong, call, value, **given)
                    self.fails(NoRollout, wrong, call, rollout=value, **dict.fromkeys(given, 7.5))

    def test_a_run(self):
        for value in strange.values():
            if type(value) is not Rollout:
                self.fails(NoRun, {"part": "rollout"}, Run, value, 7)


class TestArguments(Case):
    def test_all_may_be_passed_by_their_names(self):
        for call, given in functions():
            self.assertEqual(told(call, given), told(call, given))

    def test_nothing_is_changed(self):
        for call, given in functions():
            ahead = copy.deepcopy(given)
            told(call, given)
            self.assertEqual(given, ahead)

    def test_lists_and_tuples_are_equal(self):
        for call, given in functions():
            other = {name: tuple(value) if type(value) is list else value for name, value in given.items()}
            if "history" in other:
                other["history"] = (HISTORY[0], tuple(HISTORY[1]))
            self.assertEqual(told(call, other), told(call, given))

    def test_equal_rollouts_give_equal_results(self):
        for seed in SMALL[:20]:
            for call in (judging.reached, judging.judge, sights.sights, counts.most_fills, ends.always_ends, repairs.options,
                         texts.show_rollout):
                self.assertEqual(call(made(seed, small=True)), call(made(seed, small=True)))

    def test_lists_that_are_changed_later(self):
        writers, phases, back = list(two().writers), list(two().phases), [(1, 0)]
        names, promises = ["old"], ["mild"]
        phases[0] = Phase("one", writers=names, promises=promises)
        rollout = Rollout(writers, two().fill, phases, back=back)
        desk = desks.Desk(rollout)
        before = texts.show_rollout(rollout)
        for given in (writers, phases, back, names, promises):
            given.clear()
        self.assertEqual(texts.show_rollout(rollout), before)
        self.assertEqual(texts.show_rollout(desk.told()), before)
        rows = {1: 2}
        run = Run(two(), rows)
        rows[3] = 4
        rows[1] = 9
        self.assertEqual((run.present(), run[1]), ([1], (2, None)))
        some = list(SOME)
        answer = repairs.verdicts(example(), some)
        some.clear()
        self.assertEqual(answer, repairs.verdicts(example(), SOME))

    def test_the_order_of_the_rows_has_no_effect(self):
        for seed in SMALL[:20]:
            rollout = made(seed, small=True)
            first, second = Run(rollout, {1: 4, 2: 5, 7: 1}), Run(rollout, {7: 1, 2: 5, 1: 4})
            chance = random.Random(seed)
            for _ in range(100):
                deed = chance.choice(list(all_deeds(first, (1, 2, 3), (4, 9))))
                try:
                    first.do(deed)
                except NotNow:
                    continue
                second.do(deed)
                self.assertEqual((first.present(), first.broken(), first.calls()), (second.present(), second.broken(), second.calls()))
                self.assertEqual([first.worker(at) for at in range(rollout.workers)], [second.worker(at) for at in range(rollout.workers)])


def containers(value):
    """The lists and dicts within a value."""
    found = [value] if type(value) in (list, dict) else []
    inside = list(value.values()) if type(value) is dict else value if type(value) in (list, tuple) else ()
    for item in inside:
        found += containers(item)
    return found


class TestResults(Case):
    def test_lists_and_dicts_are_new(self):
        for call, given in functions():
            first, second = told(call, given), told(call, given)
            passed = {id(each) for each in containers(tuple(given.values()))}
            for each in containers(first):
                self.assertNotIn(id(each), passed)
                self.assertNotIn(id(each), {id(other) for other in containers(second)})
            self.assertEqual(len({id(each) for each in containers(first)}), len(containers(first)))
            for each in containers(first):
                each.clear()
            self.assertEqual(told(call, given), second)


class TestPromises(Case):
    def test_one_row(self):
        """Each deed of a run leaves the state of a key as it is, or makes one of its moves."""
        for seed in SMALL[:25]:
            rollout = made(seed, small=True)
            run, chance = Run(rollout, {1: 4, 2: 4}), random.Random(seed)
            for _ in range(120):
                ahead = {key: seen_at(run, key) for key in (1, 2, 3)}
                try:
                    run.do(chance.choice(list(all_deeds(run, (1, 2, 3), (4, 9)))))
                except NotNow:
                    continue
                for key in ahead:
                    behind = [ahead[key], *[state for _, state in states.moves(rollout, ahead[key])]]
                    self.assertIn(seen_at(run, key), behind)

    def test_what_is_told_of_a_rollout_goes_together(self):
        words = set()
        for seed in SMALL:
            rollout = made(seed, small=True)
            word, shown = judging.judge(rollout)
            known = levels(rollout)
            seen = sights.sights(rollout)
            if word == "holds":
                judging.check_table(rollout, shown)
                for phase, looks in zip(rollout.phases, seen):
                    self.assertFalse("right" in phase.promises and {"missing", "wrong"} & set(looks))
                    self.assertFalse("mild" in phase.promises and "wrong" in looks)
            else:
                judging.check_history(rollout, shown)
                rows, deeds = laying.laid(rollout, shown)
                run = Run(rollout, rows)
                for deed in deeds:
                    run.do(deed)
                self.assertEqual(run.broken(), (0, judging.breaks(rollout, seen_at(run, 0))))
            counts.check_fills(rollout, counts.most_fills(rollout))
            ends.check_ends(rollout, ends.always_ends(rollout))
            words |= {word, counts.most_fills(rollout)[0], ends.always_ends(rollout)[0]}
            self.assertEqual(texts.read_rollout(texts.show_rollout(rollout)), rollout)
            self.assertEqual(set(known), set(judging.reached(rollout)))
        self.assertEqual(words, {"holds", "breaks", "most", "endless", "always", "stuck"})

    def test_most_of_all_functions(self):
        rollout = Rollout([Writer("w", BOTH), Writer("t", TAKE)], Fill(NOW), [Phase(name, writers=("w",), fills=True) for name in "ab"])
        many = len(levels(rollout))
        for call in (judging.reached, judging.judge, sights.sights, counts.most_fills, ends.always_ends):
            call(rollout, most=many)
            self.fails(TooMany, {"most": many - 1}, call, rollout, most=many - 1)
