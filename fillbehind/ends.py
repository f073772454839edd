"""Whether the end of a rollout can always be reached."""

from fillbehind.answers import is_answer, marks_by_states, states_walked
from fillbehind.errors import NoAnswer
from fillbehind.exploring import check_most, explored, history_to
from fillbehind.kinds import is_sequence
from fillbehind.linking import led_to, links_back, links_of
from fillbehind.moving import moves_of
from fillbehind.rollouts import check_rollout
from fillbehind.states import is_state


def is_end(rollout, state):
    """Tell whether a state is an end."""
    phase, row, last, count, workers, calls = state
    return phase == len(rollout) - 1 and len(calls) == 0 and all([word == "done" for word, seen in workers])


def always_ends(rollout, *, most=2000):
    """Tell that an end can be reached from each state, with marks, or that it cannot, with a history and states."""
    check_rollout(rollout)
    check_most(most)
    ways = explored(rollout, most)
    links = links_of(rollout, list(ways))
    led = led_to(links_back(links), {state: None for state in links if is_end(rollout, state)})
    stuck = [state for state in ways if state not in led]
    if len(stuck) > 0:
        return ("stuck", history_to(ways, stuck[0]), stuck)
    return ("always", marks_of(led))


def marks_of(led):
    """The pairs of the states that are led to an end, the nearest first, and how many moves they are away."""
    marks = {}
    for state in led:
        move = led[state]
        marks[state] = 0 if move is None else marks[move[1]] + 1
    return [(state, marks[state]) for state in marks]


def check_ends(rollout, answer):
    """Raise an error if a value does not tell whether the end can always be reached."""
    check_rollout(rollout)
    if is_answer(answer, "always", 2):
        check_always_answer(rollout, answer[1])
    elif is_answer(answer, "stuck", 3):
        check_stuck_answer(rollout, answer[1], answer[2])
    else:
        raise NoAnswer("answer", -1)


def check_always_answer(rollout, marks):
    """Raise an error if marks do not show that an end can be reached from each state."""
    known = marks_by_states(rollout, marks)
    for at, (state, mark) in enumerate(marks):
        found = [behind for deed, behind in moves_of(rollout, state)]
        if not all([behind in known for behind in found]):
            raise NoAnswer("marks", at)
        if mark == 0 and not is_end(rollout, state):
            raise NoAnswer("marks", at)
        if mark > 0 and min([known[behind] for behind in found], default=mark) >= mark:
            raise NoAnswer("marks", at)


def check_stuck_answer(rollout, history, states):
    """Raise an error if these do not show that no end can be reached from the last state of the history."""
    last = states_walked(rollout, history)[-1]
    if not is_sequence(states):
        raise NoAnswer("states", -1)
    for at, state in enumerate(states):
        if not is_state(rollout, state) or is_end(rollout, state):
            raise NoAnswer("states", at)
    known = {state: True for state in states}
    if last not in known:
        raise NoAnswer("states", len(states))
    for at, state in enumerate(states):
        if not all([behind in known for deed, behind in moves_of(rollout, state)]):
            raise NoAnswer("states", at)
