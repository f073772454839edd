"""Points 7, 14 to 16 and 27, written a second time, for many states of many rollouts."""

import unittest

from fillbehind.judging import breaks
from fillbehind.rollouts import Writer
from fillbehind.states import moves, starts
from tests.rolls import BOTH, KEEP, READ, one, rollout as made

# The word of a worker behind a deed for each save, by its word ahead of it.
TURNS = {
    "last": {"ahead": {"pass": "over", "end": "done", "read": "batch"}, "batch": {"set": "over"}, "over": {"save": "behind"},
             "behind": {"end": "done"}, "done": {"again": "ahead"}},
    "first": {"ahead": {"pass": "over", "end": "done", "read": "batch"}, "batch": {"save": "late"}, "late": {"set": "behind"},
              "over": {"save": "behind"}, "behind": {"end": "done"}, "done": {"again": "ahead"}},
}
FALLS = {"batch": "ahead", "over": "ahead", "late": "behind"}


def applied(statement, row, value, seen):
    """The row behind a statement, and whether it takes effect."""
    word = statement[0]
    if row is None:
        if word == "insert":
            return (value, value if statement[1] == "now" else None), True
        if word != "put" or statement[2]:
            return None, False
    elif word == "insert":
        return row, False
    else:
        fails = {"missing": row[1] is not None, "same old": seen and row[0] != seen[0], "same new": seen and row[1] != seen[1]}
        if any(fails[check] for check in statement[-1]):
            return row, False
    if word == "delete":
        return None, True
    old = {"keep": row and row[0], "input": value, "read": seen and seen[0]}[statement[1] if word == "set" else "read"]
    return (old, {"keep": row and row[1], "none": None, "now": old, "read": seen and seen[0], "copy": seen and seen[1]}[statement[-2]]), True


def stepped(rollout, state, at, call):
    """The state with integers behind the next step of a call at a place, or None if the row is locked."""
    phase, row, last, count, workers, calls = state
    writer, step, value, seen = call
    steps = rollout.writers[writer].steps
    goes_on = step + 1 < len(steps)
    if steps[step] == READ:
        goes_on, seen = row is not None, row
    elif is_locked(rollout, state):
        return None
    else:
        statement, had = steps[step], row
        row, effect = applied(statement, row, value, seen)
        if effect:
            count = 0 if had is None or row is None else count
            if statement[0] in ("delete", "insert") or statement[1] == "input":
                last = None if statement[0] == "delete" else value
            elif statement[0] == "put" or statement[1] == "read":
                last = seen[0]
    behind = [(writer, step + 1, value, seen)] if goes_on else []
    return phase, row, last, count, workers, (*calls[:at], *behind, *calls[at + 1:])


def is_locked(rollout, state):
    return rollout.fill.lock and any(word in ("batch", "late") for word, seen in state[4])


def numbered(rollout, state):
    """The state with symbols, as far as the rollout tells them."""
    phase, row, last, count, workers, calls = state
    symbols = {None: None}

    def symbol(value):
        return symbols.setdefault(value, len(symbols) - 1)

    def pair(told):
        return told and (symbol(told[0]), symbol(told[1]))

    row, last = pair(row), symbol(last if rollout.keeps else None)
    workers = tuple([(word, pair(seen)) for word, seen in workers])
    calls = tuple([(writer, step, symbol(value), pair(seen)) for writer, step, value, seen in calls])
    return phase, row, last, min(count, 2) if rollout.counts else 0, workers, calls


def calls_begun(rollout, state):
    many = len({repr(value) for value in integers(state) if value is not None})
    for name in rollout.phases[state[0]].writers:
        at = [writer.name for writer in rollout.writers].index(name)
        writer = rollout.writers[at]
        if len(writer.steps) == 1 or len(state[5]) < rollout.hands:
            for value in range(many + 1) if writer.needs_input else [None]:
                yield ("call", name, value), stepped(rollout, state, len(state[5]), (at, 0, value, None))


def integers(state):
    phase, row, last, count, workers, calls = state
    found = [*(row or ()), last]
    for word, seen in workers:
        found += seen or ()
    for writer, step, value, seen in calls:
        found += [value, *(seen or ())]
    return found


def worked(rollout, state, index):
    phase, row, last, count, workers, calls = state
    word, seen = workers[index]
    passes = row is None or rollout.fill.only_missing and row[1] is not None
    turns = dict(TURNS[rollout.fill.save].get(word, {}))
    if word == "ahead":
        turns = {deed: turns[deed] for deed in (["pass", "end"] if passes else [] if is_locked(rollout, state) else ["read"])}
    if word == "done" and not rollout.fill.again:
        turns = {}
    if rollout.fill.falls and word in FALLS:
        turns["fall"] = FALLS[word]
    for deed, turn in turns.items():
        told, many = row, count
        if deed == "set":
            told, effect = applied(rollout.fill.statement, row, None, seen)
            many += effect
        held = row if deed == "read" else seen if turn == "late" else None
        yield (deed, index), (phase, told, last, many, (*workers[:index], (turn, held), *workers[index + 1:]), calls)


def passed_on(rollout, state):
    phase, workers, calls = state[0], state[4], state[5]
    if phase + 1 < len(rollout.phases):
        waits = {"done": all(word == "done" for word, seen in workers),
                 "drained": all(rollout.writers[call[0]].name in rollout.phases[phase + 1].writers for call in calls)}
        if all(waits[word] for word in rollout.phases[phase].waits):
            yield ("next",), (phase + 1, *state[1:])
    for late, early in rollout.back:
        if late == phase:
            yield ("back", early), (early, *state[1:])


def model(rollout, state):
    """The moves of a state, each with the state behind it."""
    found = [*calls_begun(rollout, state), *passed_on(rollout, state)]
    found += [(("go", at), stepped(rollout, state, at, call)) for at, call in enumerate(state[5])]
    if rollout.phases[state[0]].fills:
        found += [move for index in range(rollout.workers) for move in worked(rollout, state, index)]
    return [(deed, numbered(rollout, behind)) for deed, behind in found if behind is not None]


def broken(rollout, state):
    """The words of its phase that a state breaks."""
    phase, row, last, count, workers, calls = state
    is_wrong = row is not None and row[1] is not None and row[1] != row[0]
    breaks_it = {"right": row is not None and row[1] != row[0], "mild": is_wrong, "kept": last != (row and row[0]), "once": count > 1}
    return tuple([word for word in rollout.phases[phase].promises if breaks_it[word]])


class TestMoving(unittest.TestCase):
    def agrees(self, rollout, state):
        found = moves(rollout, state)
        told = {deed: behind for deed, behind in found}
        self.assertEqual(len(told), len(found))
        self.assertEqual(told, dict(model(rollout, state)))
        self.assertEqual(breaks(rollout, state), broken(rollout, state))
        return [behind for deed, behind in found]

    def test_many_states_of_many_rollouts(self):
        words = set()
        for seed in range(400):
            rollout = made(seed)
            known = dict.fromkeys(starts(rollout))
            edge = list(known)
            while edge and len(known) < 150:
                behind = self.agrees(rollout, edge.pop(len(edge) // 2))
                edge += [state for state in dict.fromkeys(behind) if state not in known]
                known.update(dict.fromkeys(behind))
            words |= {(word, len(state[5])) for state in known for word, seen in state[4]}
        self.assertEqual(words, {(word, many) for word in ("ahead", "batch", "late", "over", "behind", "done") for many in range(3)})

    def test_a_call_of_one_step_beside_others(self):
        rollout = one(READ, KEEP, hands=2, writers=[Writer("x", BOTH)])
        flying = ((0, 1, None, (0, None)), (0, 1, None, (0, 0)))
        for row in (None, (0, None), (0, 0), (0, 1)):
            for word in ("ahead", "done"):
                self.agrees(rollout, numbered(rollout, (0, row, None, 0, ((word, None),), flying)))
