"""What checks of different answers have in common."""

from fillbehind.errors import NoAnswer, NoHistory
from fillbehind.kinds import is_integer, is_sequence, is_word
from fillbehind.states import is_state, starts, walk


def is_answer(value, word, size):
    """Tell whether a value is a tuple of this size that begins with a word."""
    return isinstance(value, tuple) and len(value) == size and is_word(value[0], (word,))


def states_walked(rollout, history):
    """The states of the history of an answer."""
    try:
        return list(walk(rollout, history))
    except NoHistory as why:
        raise NoAnswer("history", why.index) from why


def is_count(value):
    """Tell whether a value is an integer from 0 on."""
    return is_integer(value) and value >= 0


def is_mark(rollout, value):
    """Tell whether a value is a tuple of a state and an integer from 0 on."""
    return isinstance(value, tuple) and len(value) == 2 and is_state(rollout, value[0]) and is_count(value[1])


def marks_by_states(rollout, marks):
    """The marks of an answer by their states; both starts are among these."""
    if not is_sequence(marks):
        raise NoAnswer("marks", -1)
    known = {}
    for at, item in enumerate(marks):
        if not is_mark(rollout, item) or known.get(item[0], item[1]) != item[1]:
            raise NoAnswer("marks", at)
        known[item[0]] = item[1]
    if not all([start in known for start in starts(rollout)]):
        raise NoAnswer("marks", len(marks))
    return known
