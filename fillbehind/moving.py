"""The moves of one row: which deeds can be done in a state, and what they lead to.

Nothing here looks whether a state is one.
"""

from fillbehind.effects import bounded, by_step, by_worker
from fillbehind.numbering import integers_of, numbered
from fillbehind.rollouts import is_read, writer_at

# The words of workers that are to set the row.
HOLDING = ("batch", "late")
# The word of a worker behind a deed, by the word of the deed and its own word ahead of it.
WORDS_BEHIND = {
    ("read", "ahead"): "batch",
    ("pass", "ahead"): "over",
    ("set", "batch"): "over",
    ("set", "late"): "behind",
    ("save", "batch"): "late",
    ("save", "over"): "behind",
    ("end", "ahead"): "done",
    ("end", "behind"): "done",
    ("fall", "batch"): "ahead",
    ("fall", "over"): "ahead",
    ("fall", "late"): "behind",
    ("again", "done"): "ahead",
}


def is_locked(rollout, state):
    """Tell whether the row is locked by a worker."""
    return rollout.fill.lock and any([word in HOLDING for word, seen in state[4]])


def deeds_of(rollout, state):
    """The list of the deeds that can be done in a state."""
    found = call_deeds(rollout, state)
    found.extend(go_deeds(rollout, state))
    found.extend(worker_deeds(rollout, state))
    found.extend(phase_deeds(rollout, state))
    return found


def call_deeds(rollout, state):
    """The calls that can begin in a state."""
    inputs = list(range(len(integers_of(state)) + 1))
    found = []
    for name in rollout.phases[state[0]].writers:
        writer = rollout.writers[writer_at(rollout, name)]
        if len(writer.steps) > 1 and len(state[5]) >= rollout.hands:
            continue
        if can_step(rollout, state, writer.steps[0]):
            found.extend([("call", name, value) for value in (inputs if writer.needs_input else [None])])
    return found


def go_deeds(rollout, state):
    """The steps that calls in flight can make in a state."""
    return [
        ("go", at)
        for at, (writer, step, value, seen) in enumerate(state[5])
        if can_step(rollout, state, rollout.writers[writer].steps[step])
    ]


def can_step(rollout, state, step):
    """Tell whether a call can make a step in a state."""
    return is_read(step) or not is_locked(rollout, state)


def worker_deeds(rollout, state):
    """The deeds that workers can do in a state."""
    if not rollout.phases[state[0]].fills:
        return []
    return [(word, index) for index in range(rollout.workers) for word in worker_words(rollout, state, index)]


def worker_words(rollout, state, index):
    """The words of the deeds that a worker can do in a state of a phase that fills."""
    fill, word = rollout.fill, state[4][index][0]
    if word == "ahead":
        if is_passed(fill, state[1]):
            return ["pass", "end"]
        return [] if is_locked(rollout, state) else ["read"]
    if word == "behind":
        return ["end"]
    if word == "done":
        return ["again"] if fill.again else []
    can_set = word == "late" or (word == "batch" and fill.save == "last")
    found = ["set" if can_set else "save"]
    if fill.falls:
        found.append("fall")
    return found


def is_passed(fill, row):
    """Tell whether a batch that covers the key has not the row."""
    return row is None or (fill.only_missing and row[1] is not None)


def phase_deeds(rollout, state):
    """The ways to other phases in a state."""
    found = [("back", earlier) for phase, earlier in rollout.back if phase == state[0]]
    if can_go_on(rollout, state):
        found.append(("next",))
    return found


def can_go_on(rollout, state):
    """Tell whether the rollout can go on to the next phase in a state."""
    phase, row, last, count, workers, calls = state
    if phase == len(rollout) - 1:
        return False
    waits = rollout.phases[phase].waits
    if "done" in waits and not all([word == "done" for word, seen in workers]):
        return False
    later = rollout.phases[phase + 1].writers
    return "drained" not in waits or all([rollout.writers[call[0]].name in later for call in calls])


def state_behind(rollout, state, deed):
    """The state behind a deed that can be done."""
    word = deed[0]
    if word == "call":
        call = (writer_at(rollout, deed[1]), 0, deed[2], None)
        return numbered(behind_step(rollout, state, len(state[5]), call))
    if word == "go":
        return numbered(behind_step(rollout, state, deed[1], state[5][deed[1]]))
    if word == "next":
        return (state[0] + 1,) + state[1:]
    if word == "back":
        return (deed[1],) + state[1:]
    return numbered(behind_work(rollout, state, word, deed[1]))


def behind_step(rollout, state, at, call):
    """What a state becomes by the next step of a call that has this place among the calls, or begins there."""
    phase, row, last, count, workers, calls = state
    writer, step, value, seen = call
    known, seen, goes_on = by_step(rollout.writers[writer].steps, step, (row, last, count), value, seen)
    row, last, count = bounded(rollout, known)
    left = ((writer, step + 1, value, seen),) if goes_on else ()
    return (phase, row, last, count, workers, calls[:at] + left + calls[at + 1:])


def behind_work(rollout, state, word, index):
    """What a state becomes by the deed of a worker with this word."""
    phase, row, last, count, workers, calls = state
    ahead, seen = workers[index]
    behind = WORDS_BEHIND[(word, ahead)]
    if word == "set":
        row, last, count = bounded(rollout, by_worker(rollout.fill.statement, (row, last, count), seen))
    if word == "read":
        seen = row
    worker = (behind, seen if behind in HOLDING else None)
    return (phase, row, last, count, workers[:index] + (worker,) + workers[index + 1:], calls)


def moves_of(rollout, state):
    """The list of the deeds that can be done in a state, each with the state behind it."""
    return [(deed, state_behind(rollout, state, deed)) for deed in deeds_of(rollout, state)]
