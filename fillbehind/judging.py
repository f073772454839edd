"""Whether a rollout keeps its promises, and how to check an answer to this."""

from fillbehind.effects import broken_words
from fillbehind.errors import NoHistory, NoTable
from fillbehind.exploring import check_most, explored, history_to
from fillbehind.kinds import is_sequence
from fillbehind.moving import moves_of
from fillbehind.rollouts import check_rollout
from fillbehind.states import check_state, is_state, starts, walk


def breaks(rollout, state):
    """The words of the phase of a state that it breaks, in their order."""
    check_state(rollout, state)
    return words_broken(rollout, state)


def words_broken(rollout, state):
    """The words of its phase that a state breaks, without looking whether it is one."""
    return broken_words(rollout, state[0], state[1:4])


def reached(rollout, *, most=2000):
    """The list of the states that can be reached, also through states that break promises."""
    check_rollout(rollout)
    check_most(most)
    return list(explored(rollout, most))


def judge(rollout, *, most=2000):
    """Tell that a rollout holds, with a closed table, or that it breaks, with a history of fewest deeds."""
    check_rollout(rollout)
    check_most(most)
    ways = explored(rollout, most)
    for state in ways:
        if len(words_broken(rollout, state)) > 0:
            return ("breaks", history_to(ways, state))
    return ("holds", list(ways))


def check_table(rollout, table):
    """Raise an error if a value is no closed table."""
    check_rollout(rollout)
    if not is_sequence(table):
        raise NoTable(-1)
    for at, state in enumerate(table):
        if not is_state(rollout, state) or len(words_broken(rollout, state)) > 0:
            raise NoTable(at)
    known = {state: True for state in table}
    if not all([state in known for state in starts(rollout)]):
        raise NoTable(len(table))
    for at, state in enumerate(table):
        if not all([behind in known for deed, behind in moves_of(rollout, state)]):
            raise NoTable(at)


def check_history(rollout, history):
    """Raise an error if a value is no history whose last state breaks a promise."""
    states = list(walk(rollout, history))
    if len(words_broken(rollout, states[-1])) == 0:
        raise NoHistory(len(history[1]))
