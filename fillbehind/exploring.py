"""The states of a rollout that can be reached, and how."""

from fillbehind.errors import NoNumber, TooMany
from fillbehind.kinds import is_integer
from fillbehind.moving import moves_of
from fillbehind.states import starts


def check_most(most):
    """Raise the error that is stated for what is no greatest number of states."""
    if not is_integer(most) or most < 1:
        raise NoNumber("most")


def explored(rollout, most):
    """The states that can be reached, nearest first, each with the state and the deed by which it is reached first.

    A start has None, and its index.
    """
    ways = {}
    for at, state in enumerate(starts(rollout)):
        ways[state] = (None, at)
    queue = list(ways)
    done = 0
    while done < len(queue):
        if len(queue) > most:
            raise TooMany(most)
        state = queue[done]
        done += 1
        found = moves_of(rollout, state)
        for deed, behind in found:
            if behind not in ways:
                ways[behind] = (state, deed)
                queue.append(behind)
    return ways


def history_to(ways, state):
    """A history of fewest deeds to a state that was reached."""
    deeds = []
    ahead, deed = ways[state]
    while ahead is not None:
        deeds.append(deed)
        ahead, deed = ways[ahead]
    return (deed, deeds[::-1])
