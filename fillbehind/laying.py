"""Histories of one row, laid on a table with this row alone."""

from fillbehind.errors import NoHistory, NoNumber
from fillbehind.kinds import is_integer
from fillbehind.runs import Run
from fillbehind.seen import values_at
from fillbehind.states import walk


def laid(rollout, history, *, key=0, first=0):
    """The rows of a run, and the deeds by which the state of the key goes through a history."""
    check_laid(rollout, history)
    if not is_integer(key):
        raise NoNumber("key")
    if not is_integer(first):
        raise NoNumber("first")
    rows = {key: first} if history[0] == 1 else {}
    unused = first + len(rows)
    run = Run(rollout, rows)
    deeds = []
    for move in history[1]:
        values = values_at(run, key) + [unused]
        deed = deed_of(run, move, key, values)
        if move[0] == "call" and move[2] == len(values) - 1:
            unused += 1
        run.do(deed)
        deeds.append(deed)
    return (rows, deeds)


def check_laid(rollout, history):
    """Raise the error that is stated for what is no history, or has a pass."""
    for many, state in enumerate(walk(rollout, history)):
        # A batch of a table with one row alone cannot cover its key without reading it.
        if many > 0 and history[1][many - 1][0] == "pass":
            raise NoHistory(many - 1)


def deed_of(run, move, key, values):
    """The deed of a run that makes a move of the state of a key, whose symbols stand for these values."""
    word = move[0]
    if word == "call":
        return ("call", move[1], key, None if move[2] is None else values[move[2]])
    if word == "go":
        # No other key has calls, so that the place in the state is the place in the run.
        return ("go", run.calls()[move[1]][0])
    if word in ("read", "end"):
        return ("batch", move[1])
    return move
