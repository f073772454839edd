"""Points 43 and 44: whether the end can always be reached."""

import time

from fillbehind.ends import always_ends, check_ends
from fillbehind.errors import NoAnswer, NoHistory, NoNumber, NoRollout, TooMany
from fillbehind.rollouts import Fill, Phase, Rollout, Writer
from fillbehind.states import is_state, moves, starts, walk
from tests import strange
from tests.cases import SMALL, AnswerCase, Case, levels, no_integers, no_rollouts, wrong_items
from tests.rolls import BOTH, NOW, READ, example, one, rollout as made, wide

AHEAD, DONE = ("ahead", None), ("done", None)
R = (0, None)


def is_end(rollout, state):
    """What [43] tells of an end, written a second time."""
    return state[0] == len(rollout.phases) - 1 and {word for word, _ in state[4]} == {"done"} and state[5] == ()


def ending(rollout, known):
    """The states from which an end can be reached, told by what leads to them until there are no more."""
    behind = {state: [other for _, other in moves(rollout, state)] for state in known}
    found = {state for state in known if is_end(rollout, state)}
    while True:
        more = {state for state in known if state not in found and not found.isdisjoint(behind[state])}
        if not more:
            return found
        found |= more


def wrong_part(rollout, answer):
    """What [44] tells of an answer of one of the two forms, written a second time; None if it is right."""
    if answer[0] == "always":
        return wrong_marks(rollout, answer[1])
    try:
        last = list(walk(rollout, answer[1]))[-1]
    except NoHistory as why:
        return ("history", why.index)
    return wrong_states(rollout, last, answer[2])


def wrong_marks(rollout, marks):
    if wrong_items(rollout, marks) is not None:
        return wrong_items(rollout, marks)
    known = dict(marks)
    if any(start not in known for start in starts(rollout)):
        return ("marks", len(marks))
    for at, (state, mark) in enumerate(marks):
        found = [known.get(behind) for _, behind in moves(rollout, state)]
        if None in found or (not is_end(rollout, state) if mark == 0 else not any(other < mark for other in found)):
            return ("marks", at)
    return None


def wrong_states(rollout, last, states):
    if type(states) not in (list, tuple):
        return ("states", -1)
    for at, state in enumerate(states):
        if not is_state(rollout, state) or is_end(rollout, state):
            return ("states", at)
    if last not in states:
        return ("states", len(states))
    for at, state in enumerate(states):
        if any(behind not in states for _, behind in moves(rollout, state)):
            return ("states", at)
    return None


def stuck_rollout():
    """A worker that is done, then falls behind, can never go on: the last phase does not fill."""
    phases = [Phase("one", fills=True), Phase("two")]
    return Rollout([Writer("w", BOTH)], Fill(NOW), phases)


class TestAlwaysEnds(Case):
    def test_example(self):
        rollout = one(BOTH, fill=NOW, promises=("mild", "once"), name="fresh")
        told = always_ends(rollout)
        self.assertEqual(told[0], "always")
        self.assertIs(check_ends(rollout, told), None)

    def test_by_hand(self):
        writers = [Writer("w", READ, BOTH)]
        two = [Phase("one", writers=("w",), fills=True), Phase("two", fills=True)]
        for word, rollout in [
            ("always", example()), ("always", Rollout(writers, Fill(NOW), two)), ("stuck", stuck_rollout()),
            ("always", Rollout(writers, Fill(NOW, save="first", falls=True, again=True), two, workers=2, back=[(1, 0)])),
            # No phase fills, so that no worker is ever done.
            ("stuck", Rollout(writers, Fill(NOW), [Phase("one", writers=("w",))])),
            # The phase ahead waits for workers that it does not let go on.
            ("stuck", Rollout(writers, Fill(NOW), [Phase("one", waits=("done",)), Phase("two", fills=True)])),
            ("always", Rollout(writers, Fill(NOW), [Phase("one", fills=True, waits=("done",)), Phase("two")])),
            # A worker that began again may be left behind.
            ("stuck", Rollout(writers, Fill(NOW, again=True), [Phase("one", fills=True), Phase("two")])),
            ("always", Rollout(writers, Fill(NOW, again=True), [Phase("one", fills=True), Phase("two")], back=[(1, 0)])),
        ]:
            told = always_ends(rollout)
            self.assertEqual(told[0], word)
            self.assertIs(check_ends(rollout, told), None)
            self.assertIs(wrong_part(rollout, told), None)

    def test_ends(self):
        phases = [Phase("one", writers=("w",), fills=True), Phase("two", fills=True)]
        rollout = Rollout([Writer("w", READ, BOTH)], Fill(NOW), phases, workers=2)
        marks = dict(always_ends(rollout)[1])
        found = [state for state, mark in marks.items() if mark == 0]
        self.assertEqual(set(found), {state for state in levels(rollout) if is_end(rollout, state)})
        self.assertEqual({state[4] for state in found}, {(DONE, DONE)})
        self.assertEqual({(state[0], state[5]) for state in found}, {(1, ())})
        self.assertEqual(marks[(1, (0, 0), None, 0, (DONE, DONE), ())], 0)
        self.assertEqual(marks[(1, (0, 0), None, 0, (DONE, ("behind", None)), ())], 1)
        self.assertEqual(marks[(0, (0, 0), None, 0, (DONE, DONE), ())], 1)
        self.assertEqual(marks[(1, (0, 0), None, 0, (DONE, DONE), ((0, 1, 1, (0, 0)),))], 1)
        self.assertEqual(marks[(0, (0, 0), None, 0, (AHEAD, DONE), ())], 5)

    def test_stuck_at_a_start(self):
        rollout = Rollout([Writer("w", BOTH)], Fill(NOW), [Phase("one")])
        self.assertEqual(always_ends(rollout)[:2], ("stuck", (0, [])))
        self.assertIs(check_ends(rollout, always_ends(rollout)), None)
        self.assertIs(check_ends(rollout, ("stuck", (1, []), [starts(rollout)[1]])), None)

    def test_stuck_on_the_way(self):
        word, (start, deeds), states = always_ends(stuck_rollout())
        self.assertEqual((word, deeds), ("stuck", [("next",)]))
        self.assertTrue({state[0] for state in states} == {1})

    def test_all_answers(self):
        words = set()
        for seed in SMALL:
            rollout = made(seed, small=True)
            known = levels(rollout)
            good = ending(rollout, known)
            told = always_ends(rollout)
            words.add(told[0])
            self.assertEqual(always_ends(rollout), told)
            self.assertIs(type(told), tuple)
            self.assertIs(wrong_part(rollout, told), None)
            self.assertIs(check_ends(rollout, told), None)
            if len(good) == len(known):
                self.assertEqual((told[0], len(told), type(told[1])), ("always", 2, list))
                states = [state for state, mark in told[1]]
                self.assertEqual(len(set(states)), len(states))
                self.assertEqual(set(states), set(known))
                self.assertEqual({state for state, mark in told[1] if mark == 0}, {state for state in known if is_end(rollout, state)})
            else:
                self.assertEqual((told[0], len(told), type(told[1]), type(told[2])), ("stuck", 3, tuple, list))
                self.assertIs(type(told[1][1]), list)
                self.assertEqual(len(told[1][1]), min(known[state] for state in known if state not in good))
                self.assertNotIn(list(walk(rollout, told[1]))[-1], good)
        self.assertEqual(words, {"always", "stuck"})

    def test_larger_rollouts(self):
        words = []
        for seed in range(1000, 1040):
            rollout = made(seed)
            try:
                told = always_ends(rollout)
            except TooMany:
                continue
            words.append(told[0])
            self.assertIs(check_ends(rollout, told), None)
        self.assertEqual(set(words), {"always", "stuck"})

    def test_new_lists(self):
        for rollout in (example(), stuck_rollout()):
            first, second = always_ends(rollout), always_ends(rollout)
            first[-1].clear()
            if first[0] == "stuck":
                first[1][1].clear()
            self.assertEqual(always_ends(rollout), second)

    def test_time(self):
        ahead = time.monotonic()
        for many in (1, 2, 3, 4):
            told = always_ends(wide(many))
            self.assertEqual(told[0], "always")
            self.assertIs(check_ends(wide(many), told), None)
        self.assertGreater(len(told[1]), 1000)
        phases = [*wide(3).phases, Phase("four", writers=("a", "b", "c"))]
        rollout = Rollout(wide(3).writers, wide(3).fill, phases, workers=2)
        told = always_ends(rollout)
        self.assertEqual((told[0], len(told[1][1])), ("stuck", 3))
        self.assertIs(check_ends(rollout, told), None)
        self.assertLess(time.monotonic() - ahead, 30)

    def test_errors(self):
        for value in no_rollouts():
            self.fails(NoRollout, {"part": "rollout", "index": -1}, always_ends, value)
            self.fails(NoRollout, {"part": "rollout", "index": -1}, always_ends, value, most=0)
        for value in [*no_integers(), 0, -1, -strange.GREAT]:
            self.fails(NoNumber, {"part": "most"}, always_ends, example(), most=value)
        with self.assertRaises(TypeError):
            always_ends(example(), 2000)

    def test_too_many(self):
        for seed in SMALL[:20]:
            rollout = made(seed, small=True)
            many = len(levels(rollout))
            self.assertEqual(always_ends(rollout, most=many), always_ends(rollout))
            for most in (1, many - 1):
                if most < many:
                    self.fails(TooMany, {"most": most}, always_ends, rollout, most=most)
        # The answer is no deed away, and yet there are too many.
        self.fails(TooMany, {"most": 3}, always_ends, Rollout([Writer("w", BOTH)], Fill(NOW), [Phase("one", writers=("w",)), Phase("b")]),
                   most=3)


class TestCheckEnds(AnswerCase):
    def setUp(self):
        self.rollout = one(BOTH, fill=NOW)
        self.marks = always_ends(self.rollout)[1]
        self.stuck_one = stuck_rollout()
        self.stuck = always_ends(self.stuck_one)

    def wrong(self, part, index, answer, rollout=None):
        self.fails(NoAnswer, {"part": part, "index": index}, check_ends, rollout or self.rollout, answer)

    def test_good_answers(self):
        marks = self.marks
        self.assertIs(check_ends(answer=("always", marks), rollout=self.rollout), None)
        self.assertIs(check_ends(self.rollout, ("always", tuple(marks[::-1]))), None)
        self.assertIs(check_ends(self.rollout, ("always", marks + marks[4:])), None)
        self.assertIs(check_ends(self.rollout, ("always", [(state, mark * strange.GREAT) for state, mark in marks])), None)
        # States that cannot be reached, with all that can be reached from them.
        edge, known = [(0, (0, 1), None, 0, (("batch", (2, 3)),), ())], dict(marks)
        more = []
        while edge:
            state = edge.pop()
            if state not in known and state not in more:
                more.append(state)
                edge.extend(behind for _, behind in moves(self.rollout, state))
        far = {"batch": 9, "over": 8, "behind": 7, "done": 0}
        more = [(state, far[state[4][0][0]]) for state in more]
        self.assertGreater(len(more), 1)
        self.assertIs(check_ends(self.rollout, ("always", marks + more)), None)
        word, (start, deeds), states = self.stuck
        self.assertIs(check_ends(self.stuck_one, (word, (start, tuple(deeds)), tuple(states[::-1]))), None)
        self.assertIs(check_ends(self.stuck_one, (word, (start, deeds), states + states)), None)
        beyond = (1, (0, 1), None, 0, (("batch", (2, 3)),), ())
        self.assertIs(check_ends(self.stuck_one, (word, (start, deeds), [beyond, *states])), None)

    def test_a_history_that_is_not_a_shortest_one(self):
        word, (start, deeds), states = self.stuck
        longer = (1, [("read", 0), ("set", 0), ("next",)])
        self.assertIs(check_ends(self.stuck_one, (word, longer, [list(walk(self.stuck_one, longer))[-1]])), None)

    def test_an_end_with_a_mark_above_0(self):
        # Two ends, with moves to one another by the call of a writer.
        rollout = one(("insert", "none"), writers=[Writer("x", ("delete", ()))])
        marks = always_ends(rollout)[1]
        absent, there = (0, None, None, 0, (DONE,), ()), (0, R, None, 0, (DONE,), ())
        self.assertEqual((dict(marks)[absent], dict(marks)[there]), (0, 0))
        raised = [(state, 1 if state == there else mark + 1 if mark else 0) for state, mark in marks]
        self.assertIs(check_ends(rollout, ("always", raised)), None)
        raised = [(state, mark + 1) for state, mark in marks]
        at = min(raised.index((absent, 1)), raised.index((there, 1)))
        self.wrong("marks", at, ("always", raised), rollout)

    def test_no_answer(self):
        word, history, states = self.stuck
        for value in [*strange.values(), ["always", self.marks], ("Always", self.marks), ("always",), ("always", self.marks, 0),
                      ("stuck", history), ("stuck", history, states, 0), list(self.stuck), ("stuck", self.marks), ("always", history, states),
                      (("always",), self.marks)]:
            self.wrong("answer", -1, value)
            if type(value) is not tuple:
                self.wrong("answer", -1, (value, self.marks))
                self.wrong("answer", -1, (value, history, states))

    def test_form_of_marks(self):
        marks = self.marks
        for value in strange.values():
            if type(value) not in (list, tuple):
                self.wrong("marks", -1, ("always", value))
        self.wrong("marks", -1, ("always", dict(marks)))
        state, mark = marks[2]
        items = [*strange.values(), list(marks[0]), (state,), (state, mark, 0), (state, -1), (state, True), (state, None),
                 (list(state), mark), (mark, state), (state, "1"), ((1,) + state[1:], mark), (state, -strange.GREAT)]
        for at in (0, 1, len(marks)):
            for value in items:
                self.wrong("marks", at, ("always", [*marks[:at], value, *marks[at:]]))
                self.wrong("marks", at, ("always", (*marks[:at], value)))
        for at, (state, mark) in enumerate(marks):
            self.wrong("marks", len(marks), ("always", [*marks, (state, mark + 1)]))
            self.wrong("marks", at + 1, ("always", [*marks[:at + 1], (state, mark + strange.GREAT), *marks[at + 1:]]))

    def test_starts(self):
        for start in starts(self.rollout):
            fewer = [pair for pair in self.marks if pair[0] != start]
            self.wrong("marks", len(fewer), ("always", fewer))
            self.wrong("marks", 2 * len(fewer), ("always", fewer + fewer))
        self.wrong("marks", 0, ("always", []))
        # The form of all items comes ahead of the starts, and these ahead of the moves.
        self.wrong("marks", 1, ("always", [self.marks[0], 7]))
        self.wrong("marks", 1, ("always", [(starts(self.rollout)[1], 0)]))

    def test_moves(self):
        for at, (state, mark) in enumerate(self.marks):
            marks = self.marks[:at] + self.marks[at + 1:]
            if state not in starts(self.rollout):
                leads = [any(behind == state for _, behind in moves(self.rollout, other)) for other, _ in marks]
                self.wrong("marks", leads.index(True), ("always", marks))
            if mark > 0:
                self.wrong("marks", at, ("always", self.marks[:at] + [(state, 0)] + self.marks[at + 1:]))
        # All have the mark 1: none has a move to a smaller one, ends alone need none if they have the mark 0.
        self.wrong("marks", 0, ("always", [(state, 1) for state, mark in self.marks]))
        flat = [(state, min(mark, 1)) for state, mark in self.marks]
        leads = [mark == 1 and all(dict(flat)[behind] == 1 for _, behind in moves(self.rollout, state)) for state, mark in flat]
        self.wrong("marks", leads.index(True), ("always", flat))

    def test_history(self):
        word, (start, deeds), states = self.stuck
        for value in [*strange.values(), [start, deeds], (2, deeds), (True, deeds), (start,), (start, deeds, 0)]:
            self.wrong("history", -1, ("stuck", value, states), self.stuck_one)
            self.wrong("history", -1, ("stuck", value, 7), self.stuck_one)
        for at in range(len(deeds) + 1):
            for value in [*strange.values(), ("back", 0), ["next"]]:
                self.wrong("history", at, ("stuck", (start, [*deeds[:at], value, *deeds[at:]]), 7), self.stuck_one)

    def test_states(self):
        word, history, states = self.stuck
        for value in strange.values():
            if type(value) not in (list, tuple):
                self.wrong("states", -1, (word, history, value), self.stuck_one)
        last = list(walk(self.stuck_one, history))[-1]
        end = (1, R, None, 0, (DONE,), ())
        for at in range(len(states) + 1):
            for value in [*strange.values(), list(last), (2,) + last[1:], end, (1, (1, None), None, 0, (AHEAD,), ())]:
                self.wrong("states", at, (word, history, [*states[:at], value, *states[at:]]), self.stuck_one)
                self.wrong("states", at, (word, history, (*states[:at], value, 7)), self.stuck_one)
        # An end comes ahead of the last state, and this ahead of the moves.
        fewer = [state for state in states if state != last]
        self.wrong("states", len(fewer), (word, history, fewer), self.stuck_one)
        self.wrong("states", 0, (word, history, []), self.stuck_one)
        self.wrong("states", 1, (word, history, [starts(self.stuck_one)[0]]), self.stuck_one)
        self.wrong("states", 2, (word, history, [*starts(self.stuck_one), end]), self.stuck_one)
        # The first item with a move to a state that is not there.
        begin = starts(self.stuck_one)[1]
        self.wrong("states", 1, (word, history, [last, begin, begin]), self.stuck_one)

    def test_answers_bent_in_one_place_or_for_another_rollout(self):
        self.all_agree(always_ends, check_ends, wrong_part, bend)

    def test_no_rollout(self):
        for value in no_rollouts():
            self.fails(NoRollout, {"part": "rollout", "index": -1}, check_ends, value, self.stuck)
            self.fails(NoRollout, {"part": "rollout", "index": -1}, check_ends, value, 7)

    def test_nothing_is_changed(self):
        ahead = repr((self.marks, self.stuck))
        check_ends(self.rollout, ("always", self.marks))
        check_ends(self.stuck_one, self.stuck)
        self.assertEqual(repr((self.marks, self.stuck)), ahead)


def bend(chance, answer):
    """The answer with a change in one place."""
    if answer[0] == "always":
        marks = answer[1]
        at = chance.randrange(len(marks))
        state, mark = marks[at]
        less = marks[:at] + marks[at + 1:]
        other = marks[:at] + [(state, mark + chance.choice([-1, 1, 2]))] + marks[at + 1:]
        return ("always", chance.choice([less, other, other, marks[::-1], marks + [(state, mark + chance.choice([0, 1]))]]))
    word, (start, deeds), states = answer
    at = chance.randrange(len(states))
    fewer = states[:at] + states[at + 1:]
    cut = chance.randrange(len(deeds) + 1)
    turns = [(start, deeds[:cut]), (start, deeds[:cut] + deeds[cut + 1:]), (start, deeds[:cut] + [7] + deeds[cut:]), (1 - start, deeds)]
    return chance.choice([(word, (start, deeds), fewer), (word, (start, deeds), fewer), (word, chance.choice(turns), states),
                          (word, (start, deeds), states[:at] + [7] + states[at:]), (word, (start, deeds), states[::-1])])
