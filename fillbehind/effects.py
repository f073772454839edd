"""What steps make of a key, and which promises are broken then.

What is known of a key is a tuple (row, last, count); with no row, count is 0.
"""

from fillbehind.rollouts import is_read
from fillbehind.statements import old_behind, row_behind, takes_effect

NOTHING = (None, None, 0)


def by_call(statement, known, value, seen):
    """What is known of a key behind a statement of a call."""
    row, last, count = known
    if not takes_effect(statement, row, seen):
        return known
    if statement[0] == "delete":
        return NOTHING
    # Last becomes what the old of the row becomes, and stays where this stays.
    return (row_behind(statement, row, value, seen), old_behind(statement, (last, None), value, seen), count)


def by_worker(statement, known, seen):
    """What is known of a key behind the statement of a worker."""
    row, last, count = known
    if not takes_effect(statement, row, seen):
        return known
    return (row_behind(statement, row, None, seen), last, count + 1)


def by_step(steps, at, known, value, seen):
    """What is known of a key behind a step of a call, the row that the call has seen then, and whether it goes on."""
    if is_read(steps[at]):
        return (known, known[0], known[0] is not None)
    return (by_call(steps[at], known, value, seen), seen, at + 1 < len(steps))


def bounded(rollout, known):
    """What a state of this rollout tells of what is known of a key."""
    row, last, count = known
    return (row, last if rollout.keeps else None, min(count, 2) if rollout.counts else 0)


def is_broken(word, known):
    """Tell whether what is known of a key breaks a promise."""
    row, last, count = known
    if word == "kept":
        return last != (None if row is None else row[0])
    if word == "once":
        return count > 1
    if row is None:
        return False
    return row[1] != row[0] and (word == "right" or row[1] is not None)


def broken_words(rollout, phase, known):
    """The promises of a phase that are broken by what is known of a key, in their order."""
    return tuple([word for word in rollout.phases[phase].promises if is_broken(word, known)])
