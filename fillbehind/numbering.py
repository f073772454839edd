"""Symbols in the place of the integers of a state."""


def symbols_by_integers(state):
    """The symbols of the integers of a state, numbered as these first occur; None stands for itself."""
    phase, row, last, count, workers, calls = state
    places = [row, (last,)]
    places.extend([seen for word, seen in workers])
    for writer, step, value, seen in calls:
        places.extend([(value,), seen])
    symbols = {None: None}
    for place in places:
        if place is not None:
            for value in place:
                if value not in symbols:
                    symbols[value] = len(symbols) - 1
    return symbols


def integers_of(state):
    """The different integers of a state, as they first occur."""
    return [value for value in symbols_by_integers(state) if value is not None]


def is_numbered(state):
    """Tell whether the integers of a state are symbols, numbered as these first occur."""
    found = integers_of(state)
    return found == list(range(len(found)))


def numbered(state):
    """The state with symbols in the place of its integers."""
    if is_numbered(state):
        return state
    symbols = symbols_by_integers(state)
    phase, row, last, count, workers, calls = state
    return (
        phase,
        row_with(symbols, row),
        symbols[last],
        count,
        tuple([(word, row_with(symbols, seen)) for word, seen in workers]),
        tuple([(writer, step, symbols[value], row_with(symbols, seen)) for writer, step, value, seen in calls]),
    )


def row_with(symbols, row):
    """The row with symbols in the place of its integers; None for None."""
    if row is None:
        return None
    return (symbols[row[0]], symbols[row[1]])
