"""The state of one key in a run."""

from fillbehind.effects import bounded
from fillbehind.errors import NoNumber, NoRun
from fillbehind.kinds import is_integer
from fillbehind.numbering import integers_of, numbered
from fillbehind.rollouts import writer_at
from fillbehind.runs import Run


def seen_at(run, key):
    """The state of a key in a run, as it is now."""
    return numbered(state_with_integers(run, key))


def values_at(run, key):
    """The list of the integers that the symbols of this state stand for."""
    return integers_of(state_with_integers(run, key))


def state_with_integers(run, key):
    """The state of a key in a run, with the integers of the run in the place of symbols."""
    if not isinstance(run, Run):
        raise NoRun("run")
    if not is_integer(key):
        raise NoNumber("key")
    rollout = run.rollout
    row, last, count = bounded(rollout, run.told_of(key))
    workers = tuple([worker_at(run.worker(index), key) for index in range(rollout.workers)])
    calls = tuple([
        (writer_at(rollout, name), step, value, seen)
        for number, name, place, step, value, seen in run.calls()
        if place == key
    ])
    return (run.phase, row, last, count, workers, calls)


def worker_at(worker, key):
    """What a worker of a run is for a key: a word, and the row that it has seen if it is to set it."""
    cursor, covers, pending, is_done = worker
    if is_done:
        return ("done", None)
    for held, seen in pending:
        if held == key:
            # A batch that is saved and still in hand has the cursor at its last key.
            return ("late" if cursor == covers else "batch", seen)
    if cursor is not None and key <= cursor:
        return ("behind", None)
    if covers is not None and key <= covers:
        return ("over", None)
    return ("ahead", None)
