"""How the states of a rollout are linked by moves, and from which of them others can be reached."""

from fillbehind.moving import moves_of


def links_of(rollout, states):
    """The moves of each of these states, lists by their states."""
    return {state: moves_of(rollout, state) for state in states}


def links_back(links):
    """For each state the list of the moves to it: tuples of the deed, and the state ahead of it."""
    back = {state: [] for state in links}
    for state in links:
        for deed, behind in links[state]:
            back[behind].append((deed, state))
    return back


def led_to(back, goals):
    """Each state from which a goal can be reached, the nearest first, with its next move on the shortest way.

    Goals are a dict from states to what is told of them in the place of this move.
    """
    found = {state: goals[state] for state in goals}
    queue = list(found)
    done = 0
    while done < len(queue):
        state = queue[done]
        done += 1
        for deed, ahead in back[state]:
            if ahead not in found:
                found[ahead] = (deed, state)
                queue.append(ahead)
    return found
