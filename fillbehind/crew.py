"""Workers of a run, and what their deeds make of them.

A worker is a tuple (cursor, covers, pending, is_done) as `Run.worker` tells it, with a tuple in the place of the list.
With save "first", a batch that is saved stays in hand until its last row is set: then cursor and covers are equal.
"""

IDLE = (None, None, (), False)


def has_saved(worker):
    """Tell whether a worker that has a batch in hand has saved it."""
    return worker[0] == worker[1]


def can_work(fill, word, worker):
    """Tell whether a worker can do the deed with this word now, in a phase that fills."""
    cursor, covers, pending, is_done = worker
    if word == "batch":
        return covers is None and not is_done
    if word == "again":
        return is_done and fill.again
    if covers is None:
        return False
    if word == "fall":
        return fill.falls
    if word == "set":
        return len(pending) > 0 and (fill.save == "last" or has_saved(worker))
    return not has_saved(worker) and (fill.save == "first" or len(pending) == 0)


def behind_batch(worker, batch):
    """A worker behind a batch, a tuple of the pairs of keys and rows that it read."""
    if len(batch) == 0:
        return (worker[0], None, (), True)
    return (worker[0], batch[-1][0], batch, False)


def behind_set(fill, worker):
    """A worker behind its statement for the next row of its batch."""
    cursor, covers, pending, is_done = worker
    if fill.save == "first" and len(pending) == 1:
        return (cursor, None, (), False)
    return (cursor, covers, pending[1:], False)


def behind_save(fill, worker):
    """A worker behind a save."""
    cursor, covers, pending, is_done = worker
    if fill.save == "first":
        return (covers, covers, pending, False)
    return (covers, None, (), False)


def behind_fall(worker):
    """A worker behind a fall."""
    return (worker[0], None, (), False)
