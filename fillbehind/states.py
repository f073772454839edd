"""States of one row, their moves, and the histories that these make."""

from fillbehind.errors import NoHistory, NoMove, NoState
from fillbehind.kinds import is_between, is_integer, is_plain, is_sequence, is_word
from fillbehind.moving import HOLDING, deeds_of, moves_of, state_behind
from fillbehind.numbering import integers_of, is_numbered
from fillbehind.rollouts import check_rollout, is_behind_read
from fillbehind.statements import is_row

WORDS = ("ahead", "batch", "late", "over", "behind", "done")


def is_state(rollout, state):
    """Tell whether a value is a state, whether or not it can be reached."""
    check_rollout(rollout)
    if not isinstance(state, tuple) or len(state) != 6 or not is_between(state[0], 0, len(rollout) - 1):
        return False
    return (
        row_fits(rollout, state[1], state[2], state[3])
        and workers_fit(rollout, state[4])
        and calls_fit(rollout, state[5])
        and is_numbered(state)
    )


def row_fits(rollout, row, last, count):
    """Tell whether these may be the row of a state, its last and its count."""
    if row is not None and not is_row(row):
        return False
    if last is not None and not (rollout.keeps and is_integer(last)):
        return False
    return is_between(count, 0, 2 if rollout.counts and row is not None else 0)


def workers_fit(rollout, workers):
    """Tell whether a value may be the workers of a state."""
    if not isinstance(workers, tuple) or len(workers) != rollout.workers:
        return False
    return all([worker_fits(rollout, worker) for worker in workers])


def worker_fits(rollout, worker):
    """Tell whether a value may be a worker of a state."""
    if not isinstance(worker, tuple) or len(worker) != 2 or not is_word(worker[0], WORDS):
        return False
    if worker[0] == "late" and rollout.fill.save != "first":
        return False
    return is_row(worker[1]) if worker[0] in HOLDING else worker[1] is None


def calls_fit(rollout, calls):
    """Tell whether a value may be the calls of a state."""
    if not isinstance(calls, tuple) or len(calls) > rollout.hands:
        return False
    return all([call_fits(rollout, call) for call in calls])


def call_fits(rollout, call):
    """Tell whether a value may be a call of a state."""
    if not isinstance(call, tuple) or len(call) != 4 or not is_between(call[0], 0, len(rollout.writers) - 1):
        return False
    writer = rollout.writers[call[0]]
    # A writer of one step has no step that a call in flight could make.
    if not is_between(call[1], 1, len(writer.steps) - 1):
        return False
    value_fits = is_integer(call[2]) if writer.needs_input else call[2] is None
    return value_fits and (is_row(call[3]) if is_behind_read(writer.steps, call[1]) else call[3] is None)


def check_state(rollout, state):
    """Raise the errors that are stated for what is no rollout and no state."""
    if not is_state(rollout, state):
        raise NoState()


def symbols(state):
    """How many symbols a state has."""
    return len(integers_of(state))


def starts(rollout):
    """The two states with which a key can begin: absent, and with a row."""
    check_rollout(rollout)
    workers = tuple([("ahead", None) for index in range(rollout.workers)])
    return [(0, None, None, 0, workers, ()), (0, (0, None), 0 if rollout.keeps else None, 0, workers, ())]


def can_do(rollout, state, deed):
    """Tell whether a value is a deed that can be done in a state."""
    return is_plain(deed) and deed in deeds_of(rollout, state)


def after(rollout, state, deed):
    """The state behind a deed."""
    check_state(rollout, state)
    if not can_do(rollout, state, deed):
        raise NoMove(deed)
    return state_behind(rollout, state, deed)


def moves(rollout, state):
    """The list of the deeds that can be done in a state, each with the state behind it."""
    check_state(rollout, state)
    return moves_of(rollout, state)


def is_history(value):
    """Tell whether a value has the form of a history, whatever its deeds are."""
    return isinstance(value, tuple) and len(value) == 2 and is_between(value[0], 0, 1) and is_sequence(value[1])


def walk(rollout, history):
    """Yield the start of a history, and the state behind each of its deeds."""
    check_rollout(rollout)
    if not is_history(history):
        raise NoHistory(-1)
    state = starts(rollout)[history[0]]
    yield state
    for at, deed in enumerate(history[1]):
        if not can_do(rollout, state, deed):
            raise NoHistory(at)
        state = state_behind(rollout, state, deed)
        yield state
