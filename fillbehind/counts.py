"""How often workers fill one row."""

from fillbehind.answers import is_answer, is_count, marks_by_states, states_walked
from fillbehind.errors import NoAnswer, NoMove
from fillbehind.exploring import check_most, explored, history_to
from fillbehind.kinds import is_sequence
from fillbehind.linking import led_to, links_back, links_of
from fillbehind.moving import moves_of, state_behind
from fillbehind.rollouts import check_rollout
from fillbehind.statements import takes_effect
from fillbehind.states import can_do, check_state, starts


def does_fill(rollout, state, deed):
    """Tell whether a move fills the row."""
    check_state(rollout, state)
    if not can_do(rollout, state, deed):
        raise NoMove(deed)
    return is_filling(rollout, state, deed)


def is_filling(rollout, state, deed):
    """Tell whether a deed that can be done in a state fills the row."""
    if deed[0] != "set":
        return False
    word, seen = state[4][deed[1]]
    return takes_effect(rollout.fill.statement, state[1], seen)


def most_fills(rollout, *, most=2000):
    """Tell the greatest number of moves that fill, with a history and marks, or that there is none, with a round."""
    check_rollout(rollout)
    check_most(most)
    ways = explored(rollout, most)
    links = links_of(rollout, list(ways))
    back = links_back(links)
    # Each layer has the states from which a move that fills can be come to that leads into the layer ahead of it.
    layers = []
    goals = links
    while len(goals) > 0:
        layer = led_to(back, filling_moves(rollout, links, goals))
        if len(layer) == len(goals):
            return endless_answer(ways, layer)
        layers.append(layer)
        goals = layer
    return most_answer(rollout, links, layers[:-1])


def filling_moves(rollout, links, goals):
    """The states with a move that fills and leads to a goal, each with one such move."""
    return {
        state: (deed, behind)
        for state in links
        for deed, behind in links[state]
        if behind in goals and is_filling(rollout, state, deed)
    }


def endless_answer(ways, layer):
    """The answer for a layer whose moves never lead out of it: followed on and on, they go in a round."""
    state = [known for known in ways if known in layer][0]
    places = {}
    deeds = []
    while state not in places:
        places[state] = len(deeds)
        deed, state = layer[state]
        deeds.append(deed)
    return ("endless", history_to(ways, state), deeds[places[state]:])


def most_answer(rollout, links, layers):
    """The answer for layers of which the last one has no state with a move that fills and leads back to it."""
    many = {state: len([layer for layer in layers if state in layer]) for state in links}
    begins = [many[start] for start in starts(rollout)]
    number = max(begins)
    start = 0 if begins[0] == number else 1
    deeds = deeds_through(rollout, layers, starts(rollout)[start])
    return ("most", number, (start, deeds), [(state, many[state]) for state in many])


def deeds_through(rollout, layers, state):
    """The deeds of a walk from a state of the last layer, on which a move fills for each layer."""
    deeds = []
    for layer in layers[::-1]:
        has_filled = False
        while not has_filled:
            deed, behind = layer[state]
            has_filled = is_filling(rollout, state, deed)
            deeds.append(deed)
            state = behind
    return deeds


def check_fills(rollout, answer):
    """Raise an error if a value does not tell how often a row is filled."""
    check_rollout(rollout)
    if is_answer(answer, "most", 4):
        check_most_answer(rollout, answer[1], answer[2], answer[3])
    elif is_answer(answer, "endless", 3):
        check_endless_answer(rollout, answer[1], answer[2])
    else:
        raise NoAnswer("answer", -1)


def check_most_answer(rollout, number, history, marks):
    """Raise an error if these do not show that a row is filled so often at most."""
    if not is_count(number):
        raise NoAnswer("number", -1)
    states = states_walked(rollout, history)
    if fills_along(rollout, states, history[1]) != number:
        raise NoAnswer("history", len(history[1]))
    known = marks_by_states(rollout, marks)
    if max([known[start] for start in starts(rollout)]) > number:
        raise NoAnswer("marks", len(marks))
    for at, (state, mark) in enumerate(marks):
        for deed, behind in moves_of(rollout, state):
            if behind not in known or known[behind] + int(is_filling(rollout, state, deed)) > mark:
                raise NoAnswer("marks", at)


def fills_along(rollout, states, deeds):
    """How many of the deeds fill, each of which is done in the state at its place."""
    return len([deed for state, deed in zip(states, deeds) if is_filling(rollout, state, deed)])


def check_endless_answer(rollout, history, turn):
    """Raise an error if these do not show that a row can be filled on and on."""
    begin = states_walked(rollout, history)[-1]
    if not is_sequence(turn):
        raise NoAnswer("round", -1)
    states = [begin]
    for at, deed in enumerate(turn):
        if not can_do(rollout, states[-1], deed):
            raise NoAnswer("round", at)
        states.append(state_behind(rollout, states[-1], deed))
    if states[-1] != begin or fills_along(rollout, states, turn) == 0:
        raise NoAnswer("round", len(turn))
