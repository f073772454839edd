"""Points 40 and 41: how often a row is filled."""

import time

from fillbehind.counts import check_fills, does_fill, most_fills
from fillbehind.errors import NoAnswer, NoHistory, NoMove, NoNumber, NoRollout, NoState, TooMany
from fillbehind.rollouts import Fill, Phase, Rollout, Writer
from fillbehind.statements import applied
from fillbehind.states import moves, starts, walk
from tests import strange
from tests.cases import SMALL, AnswerCase, Case, levels, no_integers, no_rollouts, wrong_items
from tests.rolls import BOTH, KEEP, NOW, TAKE, example, one, rollout as made, wide

AHEAD = ("ahead", None)
R = (0, None)


def fills(rollout, state, deed):
    """What [40] tells, from what a statement does."""
    if deed[0] != "set":
        return False
    return applied(rollout.fill.statement, state[1], None, state[4][deed[1]][1])[1]


def greatest(rollout):
    """The greatest number of moves that fill, or None, told by a search that goes on until nothing grows."""
    linked = {state: [(behind, int(fills(rollout, state, deed))) for deed, behind in moves(rollout, state)]
              for state in levels(rollout)}
    many = dict.fromkeys(linked, 0)
    for _ in range(len(linked) + 2):
        grown = {state: max([many[state], *[many[behind] + more for behind, more in linked[state]]]) for state in linked}
        if grown == many:
            return max(many[start] for start in starts(rollout))
        many = grown
        # A walk with more moves that fill than there are states goes in a round.
        if max(many.values()) > len(linked):
            return None
    return None


def wrong_part(rollout, answer):
    """What [41] tells of an answer of one of the two forms, written a second time; None if it is right."""
    history = answer[2] if answer[0] == "most" else answer[1]
    if answer[0] == "most" and (type(answer[1]) is not int or answer[1] < 0):
        return ("number", -1)
    try:
        states = list(walk(rollout, history))
    except NoHistory as why:
        return ("history", why.index)
    if answer[0] == "endless":
        return wrong_round(rollout, states[-1], answer[2])
    if sum(fills(rollout, state, deed) for state, deed in zip(states, history[1])) != answer[1]:
        return ("history", len(history[1]))
    return wrong_marks(rollout, answer[1], answer[3])


def wrong_round(rollout, begin, deeds):
    if type(deeds) not in (list, tuple):
        return ("round", -1)
    state, many = begin, 0
    for at, deed in enumerate(deeds):
        found = [(other, behind) for other, behind in moves(rollout, state) if repr(other) == repr(deed)]
        if not found:
            return ("round", at)
        many += fills(rollout, state, deed)
        state = found[0][1]
    return None if state == begin and many else ("round", len(deeds))


def wrong_marks(rollout, number, marks):
    if wrong_items(rollout, marks) is not None:
        return wrong_items(rollout, marks)
    known = dict(marks)
    if any(known.get(start, number + 1) > number for start in starts(rollout)):
        return ("marks", len(marks))
    for at, (state, mark) in enumerate(marks):
        for deed, behind in moves(rollout, state):
            if behind not in known or known[behind] + fills(rollout, state, deed) > mark:
                return ("marks", at)
    return None


class TestDoesFill(Case):
    def test_all_moves(self):
        found = set()
        for seed in SMALL:
            rollout = made(seed, small=True)
            for state in list(levels(rollout))[:60]:
                for deed, _ in moves(rollout, state):
                    told = does_fill(rollout, state, deed)
                    self.assertIs(type(told), bool)
                    self.assertEqual(told, fills(rollout, state, deed))
                    found.add((deed[0], told))
        self.assertIn(("set", True), found)
        self.assertIn(("set", False), found)
        self.assertEqual({word for word, told in found if told}, {"set"})
        self.assertEqual(len({word for word, told in found}), 11)

    def test_by_hand(self):
        same = ("set", "keep", "read", ("same old",))
        rollout = one(TAKE, fill=same)
        for row, told in [(R, True), ((0, 0), True), ((0, 1), True), (None, False)]:
            self.assertIs(does_fill(rollout, (0, row, None, 0, (("batch", R),), ()), ("set", 0)), told)
        self.assertIs(does_fill(rollout, (0, R, None, 0, (("batch", (1, None)),), ()), ("set", 0)), False)
        # A set that leaves the row as it is takes effect all the same.
        self.assertIs(does_fill(one(fill=KEEP, *[TAKE]), (0, R, None, 0, (("batch", R),), ()), ("set", 0)), True)
        put = one(TAKE, fill=("put", "now", ()))
        self.assertIs(does_fill(put, (0, None, None, 0, (("batch", R),), ()), ("set", 0)), True)
        put = one(TAKE, fill=("put", "now", ("missing",)))
        self.assertIs(does_fill(put, (0, None, None, 0, (("batch", R),), ()), ("set", 0)), False)
        two = one(TAKE, fill=same, workers=2, save="first")
        state = (0, R, None, 0, (("late", (1, None)), ("late", R)), ())
        self.assertIs(does_fill(state=state, deed=("set", 1), rollout=two), True)
        self.assertIs(does_fill(two, state, ("set", 0)), False)
        # Calls do not fill, whatever they do.
        self.assertIs(does_fill(one(NOW), starts(one(NOW))[1], ("call", "w", None)), False)

    def test_errors(self):
        begin = starts(example())[1]
        for value in no_rollouts():
            self.fails(NoRollout, {"part": "rollout", "index": -1}, does_fill, value, begin, ("read", 0))
            self.fails(NoRollout, {"part": "rollout", "index": -1}, does_fill, value, 7, 7)
        for value in [*strange.values(), list(begin), (0, (1, None), None, 0, (AHEAD,), ())]:
            self.fails(NoState, {}, does_fill, example(), value, ("read", 0))
            self.fails(NoState, {}, does_fill, example(), value, 7)
        for value in [*strange.values(), ("set", 0), ("read", False), ["read", 0], ("read", 1), ("next",), ("call", "old", 2),
                      ("batch", 0), ("set", [0]), ("set", strange.GREAT), ("pass", 0)]:
            self.fails(NoMove, {"deed": value}, does_fill, example(), begin, value)


class TestMostFills(Case):
    def test_example(self):
        rollout = one(BOTH, fill=NOW, promises=("mild", "once"), name="fresh")
        told = most_fills(rollout)
        self.assertEqual(told[:2], ("most", 1))
        self.assertIs(check_fills(rollout, told), None)

    def test_by_hand(self):
        anew = [Writer("d", ("delete", ())), Writer("i", ("insert", "none"))]
        missing = ("set", "keep", "now", ("missing",))
        for number, rollout in [
            (0, Rollout([Writer("w", BOTH)], Fill(NOW), [Phase("one", writers=("w",))])),
            (1, one(BOTH, fill=NOW)), (2, one(BOTH, fill=NOW, workers=2)), (1, one(BOTH, fill=NOW, save="first", falls=True)),
            (None, one(BOTH, fill=NOW, falls=True)), (None, one(BOTH, fill=NOW, again=True)),
            (1, one(BOTH, fill=missing, falls=True, again=True)), (2, one(BOTH, fill=missing, writers=anew, workers=2)),
            (None, one(BOTH, fill=missing, falls=True, writers=anew)),
            (None, one(("set", "keep", "none", ()), fill=missing, again=True)),
            (1, one(BOTH, fill=NOW, only_missing=True, again=True)), (2, one(BOTH, fill=NOW, only_missing=True, workers=2)),
        ]:
            self.assertEqual(greatest(rollout), number)
            told = most_fills(rollout)
            self.assertEqual(told[:2] if number is not None else told[:1], ("most", number) if number is not None else ("endless",))
            self.assertIs(check_fills(rollout, told), None)

    def test_over_phases(self):
        # Each of the three phases clears what the worker filled, but only so often can it begin again.
        phases = [Phase("one", fills=True, waits=("done",)), Phase("two", writers=("c",)), Phase("three", fills=True)]
        for back, number in [((), 1), (((2, 0),), 1)]:
            rollout = Rollout([Writer("c", ("set", "keep", "none", ()))], Fill(NOW), phases, back=back)
            self.assertEqual(most_fills(rollout)[:2], ("most", number))
        rollout = Rollout([Writer("c", ("set", "keep", "none", ()))], Fill(NOW, again=True), phases, back=[(1, 0)])
        word, history, turn = most_fills(rollout)
        self.assertEqual(word, "endless")
        self.assertIs(check_fills(rollout, (word, history, turn)), None)

    def test_all_answers(self):
        found = set()
        for seed in SMALL:
            rollout = made(seed, small=True)
            number = greatest(rollout)
            told = most_fills(rollout)
            found.add(number)
            self.assertEqual(most_fills(rollout), told)
            self.assertIs(type(told), tuple)
            self.assertIs(wrong_part(rollout, told), None)
            self.assertIs(check_fills(rollout, told), None)
            if number is None:
                self.assertEqual((told[0], len(told)), ("endless", 3))
                self.assertEqual([type(part) for part in told[1:]], [tuple, list])
                self.assertIs(type(told[1][1]), list)
            else:
                self.assertEqual((told[:2], len(told)), (("most", number), 4))
                self.assertEqual([type(part) for part in told[2:]], [tuple, list])
                self.assertIs(type(told[2][1]), list)
                states = [state for state, mark in told[3]]
                self.assertEqual(len(set(states)), len(states))
                self.assertEqual(set(states), set(levels(rollout)))
        self.assertGreater(len(found), 3)
        self.assertIn(None, found)

    def test_larger_rollouts(self):
        words = set()
        for seed in range(1000, 1040):
            rollout = made(seed)
            try:
                told = most_fills(rollout)
            except TooMany:
                continue
            words.add(told[0])
            self.assertIs(check_fills(rollout, told), None)
        self.assertEqual(words, {"most", "endless"})

    def test_new_lists(self):
        for rollout in (one(BOTH, fill=NOW), one(BOTH, fill=NOW, again=True)):
            first, second = most_fills(rollout), most_fills(rollout)
            for part in first:
                if type(part) is list:
                    part.clear()
                elif type(part) is tuple:
                    part[1].clear()
            self.assertEqual(most_fills(rollout), second)

    def test_time(self):
        ahead = time.monotonic()
        for many in (1, 2, 3, 4):
            told = most_fills(wide(many))
            self.assertEqual(told[0], "endless")
            self.assertIs(check_fills(wide(many), told), None)
        phases = [Phase(name, writers=("a", "b", "c"), fills=True) for name in ("one", "two", "three", "four")]
        rollout = Rollout(wide(1).writers, Fill(("put", "read", ()), save="first"), phases, workers=2)
        told = most_fills(rollout, most=20000)
        self.assertEqual(told[:2], ("most", 2))
        self.assertGreater(len(told[3]), 1000)
        self.assertIs(check_fills(rollout, told), None)
        self.assertLess(time.monotonic() - ahead, 30)

    def test_errors(self):
        for value in no_rollouts():
            self.fails(NoRollout, {"part": "rollout", "index": -1}, most_fills, value)
            self.fails(NoRollout, {"part": "rollout", "index": -1}, most_fills, value, most=0)
        for value in [*no_integers(), 0, -1, -strange.GREAT]:
            self.fails(NoNumber, {"part": "most"}, most_fills, example(), most=value)
        with self.assertRaises(TypeError):
            most_fills(example(), 2000)

    def test_too_many(self):
        for seed in SMALL[:20]:
            rollout = made(seed, small=True)
            many = len(levels(rollout))
            self.assertEqual(most_fills(rollout, most=many), most_fills(rollout))
            for most in (1, many - 1):
                if most < many:
                    self.fails(TooMany, {"most": most}, most_fills, rollout, most=most)


class TestCheckFills(AnswerCase):
    def setUp(self):
        self.rollout = one(BOTH, fill=NOW)
        self.most = most_fills(self.rollout)
        self.endless_one = one(BOTH, fill=NOW, again=True)
        self.endless = most_fills(self.endless_one)

    def wrong(self, part, index, answer, rollout=None):
        self.fails(NoAnswer, {"part": part, "index": index}, check_fills, rollout or self.rollout, answer)

    def test_good_answers(self):
        word, number, (start, deeds), marks = self.most
        self.assertIs(check_fills(answer=self.most, rollout=self.rollout), None)
        self.assertIs(check_fills(self.rollout, (word, number, (start, tuple(deeds)), tuple(marks))), None)
        self.assertIs(check_fills(self.rollout, (word, number, (start, deeds), marks[::-1] + marks)), None)
        # A state that cannot be reached, with all that can be reached from it.
        beyond = (0, (0, 0), None, 0, (("batch", (1, 2)),), ())
        self.assertNotIn(beyond, [state for state, mark in marks])
        edge, known = [beyond], {}
        while edge:
            state = edge.pop()
            if state not in known:
                known[state] = strange.GREAT
                edge.extend(behind for _, behind in moves(self.rollout, state))
        more = [(state, mark) for state, mark in known.items() if state not in dict(marks)]
        self.assertGreater(len(more), 1)
        self.assertIs(check_fills(self.rollout, (word, number, (start, deeds), marks + more)), None)
        # Marks may be greater than they must be: here those of an absent row, up to the number at the start.
        greater = [(state, mark if state[1] else 1) for state, mark in marks]
        self.assertNotEqual(greater, marks)
        self.assertIs(check_fills(self.rollout, (word, number, (start, deeds), greater)), None)
        word, history, turn = self.endless
        self.assertIs(check_fills(self.endless_one, (word, (history[0], tuple(history[1])), tuple(turn))), None)
        self.assertIs(check_fills(self.endless_one, (word, history, turn + turn)), None)
        self.assertIs(check_fills(self.endless_one, (word, (history[0], history[1] + turn), turn)), None)

    def test_no_answer(self):
        word, number, history, marks = self.most
        for value in [*strange.values(), list(self.most), ("Most", number, history, marks), ("most", number, history),
                      ("most", number, history, marks, marks), ("endless", number, history, marks), ("most",), ("endless",),
                      ("endless", history), list(self.endless), ("most", history, marks), (["most"], number, history, marks)]:
            self.wrong("answer", -1, value)
            if type(value) is not tuple:
                self.wrong("answer", -1, (value, number, history, marks))
                self.wrong("answer", -1, (value, history, []))

    def test_number(self):
        for value in [*no_integers(), -1, -strange.GREAT]:
            self.wrong("number", -1, ("most", value, *self.most[2:]))
            self.wrong("number", -1, ("most", value, 7, 7))

    def test_history(self):
        word, number, (start, deeds), marks = self.most
        for value in [*strange.values(), [start, deeds], (2, deeds), (True, deeds), (start,), (start, deeds, 0)]:
            self.wrong("history", -1, ("most", number, value, marks))
            self.wrong("history", -1, ("most", number, value, 7))
            self.wrong("history", -1, ("endless", value, 7), self.endless_one)
        for at in range(len(deeds)):
            for value in [*strange.values(), ("next",), ["read", 0]]:
                self.wrong("history", at, ("most", number, (start, [*deeds[:at], value, *deeds[at:]]), 7))
        for value in strange.values():
            many = len(self.endless[1][1])
            self.wrong("history", many, ("endless", (self.endless[1][0], [*self.endless[1][1], value]), 7), self.endless_one)
        # Not just so many moves that fill: one fewer, or another number.
        for many in range(len(deeds)):
            self.wrong("history", many, ("most", number, (start, deeds[:many]), 7))
        for value in (0, 2, strange.GREAT):
            self.wrong("history", len(deeds), ("most", value, (start, deeds), 7))

    def test_form_of_marks(self):
        word, number, history, marks = self.most
        for value in strange.values():
            if type(value) not in (list, tuple):
                self.wrong("marks", -1, (word, number, history, value))
        self.wrong("marks", -1, (word, number, history, dict(marks)))
        state, mark = marks[0]
        other = marks[2][0]
        self.assertNotIn(other, starts(self.rollout))
        items = [*strange.values(), list(marks[0]), (state,), (state, mark, 0), (state, -1), (state, True), (state, None),
                 (list(state), mark), (mark, state), (state, "1"), ((1,) + state[1:], mark), (state, -strange.GREAT)]
        for at in (0, 2, len(marks)):
            for value in items:
                self.wrong("marks", at, (word, number, history, [*marks[:at], value, *marks[at:]]))
                self.wrong("marks", at, (word, number, history, (*marks[:at], value)))
        for value in strange.values():
            if type(value) is not int or value < 0:
                self.wrong("marks", 2, (word, number, history, [*marks[:2], (other, value)]))
        # A state a second time, with another mark.
        for at, (state, mark) in enumerate(marks):
            self.wrong("marks", len(marks), (word, number, history, [*marks, (state, mark + 1)]))
            self.wrong("marks", at + 1, (word, number, history, [*marks[:at + 1], (state, mark + strange.GREAT), *marks[at + 1:]]))

    def test_starts_and_their_marks(self):
        word, number, history, marks = self.most
        for start in starts(self.rollout):
            fewer = [pair for pair in marks if pair[0] != start]
            self.wrong("marks", len(fewer), (word, number, history, fewer))
            greater = [(state, number + 1 if state == start else mark) for state, mark in marks]
            self.wrong("marks", len(marks), (word, number, history, greater))
            self.wrong("marks", 2 * len(marks), (word, number, history, greater + greater))
        self.wrong("marks", 0, (word, number, history, []))
        # The form of all items comes ahead of the starts, and these ahead of the moves.
        self.wrong("marks", 1, (word, number, history, [marks[2], 7]))
        self.wrong("marks", 1, (word, number, history, [marks[2]]))

    def test_moves(self):
        word, number, history, marks = self.most
        for at, (state, mark) in enumerate(marks):
            if state not in starts(self.rollout):
                fewer = marks[:at] + marks[at + 1:]
                leads = [any(behind == state for _, behind in moves(self.rollout, other)) for other, _ in fewer]
                self.wrong("marks", leads.index(True), (word, number, history, fewer))
            if mark > 0:
                lower = marks[:at] + [(state, mark - 1)] + marks[at + 1:]
                told = wrong_part(self.rollout, (word, number, history, lower))
                if told is not None:
                    self.wrong(*told, (word, number, history, lower))
        # A move that fills needs a mark above the one behind it.
        filling = [pair for pair in marks if any(fills(self.rollout, pair[0], deed) for deed, _ in moves(self.rollout, pair[0]))]
        self.assertGreater(len(filling), 0)
        for state, mark in filling:
            self.assertEqual(mark, 1)
            at = marks.index((state, mark))
            lower = marks[:at] + [(state, 0)] + marks[at + 1:]
            self.wrong("marks", at, (word, number, history, lower))

    def test_rounds(self):
        word, history, turn = self.endless
        for value in strange.values():
            if type(value) not in (list, tuple):
                self.wrong("round", -1, (word, history, value), self.endless_one)
        for at in range(len(turn) + 1):
            for value in [*strange.values(), ("next",), ("call", "w", strange.GREAT), ("set", True)]:
                self.wrong("round", at, (word, history, [*turn[:at], value, *turn[at:]]), self.endless_one)
        for at in range(1, len(turn)):
            self.wrong("round", at, (word, history, turn[:at]), self.endless_one)
        # No deed, and a round without a move that fills: of calls, or of a worker that finds no row.
        self.wrong("round", 0, (word, history, []), self.endless_one)
        self.wrong("round", 0, (word, (1, []), ()), self.endless_one)
        self.wrong("round", 1, (word, (1, [("call", "w", 1)]), [("call", "w", 1)]), self.endless_one)
        self.wrong("round", 2, (word, (0, []), [("end", 0), ("again", 0)]), self.endless_one)
        # Leads back to another state on the way.
        self.wrong("round", 5, (word, (1, []), [("read", 0), ("set", 0), ("save", 0), ("end", 0), ("again", 0)]), self.endless_one)
        turn = [("read", 0), ("set", 0), ("save", 0), ("end", 0), ("again", 0)]
        self.assertIs(check_fills(self.endless_one, (word, (1, turn), turn)), None)

    def test_answers_bent_in_one_place_or_for_another_rollout(self):
        self.all_agree(most_fills, check_fills, wrong_part, bend)

    def test_no_rollout(self):
        for value in no_rollouts():
            self.fails(NoRollout, {"part": "rollout", "index": -1}, check_fills, value, self.most)
            self.fails(NoRollout, {"part": "rollout", "index": -1}, check_fills, value, 7)

    def test_nothing_is_changed(self):
        ahead = repr((self.most, self.endless))
        check_fills(self.rollout, self.most)
        check_fills(self.endless_one, self.endless)
        self.assertEqual(repr((self.most, self.endless)), ahead)


def bend(chance, answer):
    """The answer with a change in one place."""
    if answer[0] == "most":
        word, number, (start, deeds), marks = answer
        at = chance.randrange(len(marks))
        state, mark = marks[at]
        turns = [
            (word, number + chance.choice([-1, 1]), (start, deeds), marks),
            (word, number, (1 - start, deeds), marks),
            (word, number, (start, bend_deeds(chance, deeds)), marks),
            (word, number, (start, deeds), marks[:at] + marks[at + 1:]),
            (word, number, (start, deeds), marks[:at] + [(state, mark + chance.choice([-1, 1, 2]))] + marks[at + 1:]),
            (word, number, (start, deeds), marks + [(state, mark + chance.choice([-1, 0, 1]))]),
        ]
        return turns[chance.choice([0, 1, 2, 3, 3, 4, 4, 4, 5])]
    word, (start, deeds), turn = answer
    turns = [(word, (1 - start, deeds), turn), (word, (start, bend_deeds(chance, deeds)), turn)]
    return chance.choice([*turns, (word, (start, deeds), bend_deeds(chance, turn))])


def bend_deeds(chance, deeds):
    """The deeds with one left out, one twice, or one more."""
    more = chance.choice([("read", 0), ("set", 0), ("end", 0), ("save", 0), ("next",), ("go", 0), 7])
    at = chance.randrange(len(deeds) + 1)
    return chance.choice([deeds[:at] + deeds[at + 1:], deeds[:at] + deeds[max(at - 1, 0):], deeds[:at] + [more] + deeds[at:]])
