"""What a reader can find of a row in each phase."""

from fillbehind.errors import NoNumber, NoWord
from fillbehind.exploring import check_most, explored, history_to
from fillbehind.kinds import is_between, is_word
from fillbehind.rollouts import check_rollout

LOOKS = ("absent", "missing", "right", "wrong")


def look(row):
    """The word for how a row looks."""
    if row is None:
        return "absent"
    if row[1] is None:
        return "missing"
    return "right" if row[1] == row[0] else "wrong"


def sights(rollout, *, most=2000):
    """The words for how a row can look, a tuple for each phase."""
    check_rollout(rollout)
    check_most(most)
    found = {(state[0], look(state[1])): True for state in explored(rollout, most)}
    return [tuple([word for word in LOOKS if (phase, word) in found]) for phase in range(len(rollout))]


def sight(rollout, phase, word, *, most=2000):
    """A history of fewest deeds to a state of a phase in which the row looks so, or None."""
    check_rollout(rollout)
    if not is_between(phase, 0, len(rollout) - 1):
        raise NoNumber("phase")
    if not is_word(word, LOOKS):
        raise NoWord(word)
    check_most(most)
    ways = explored(rollout, most)
    for state in ways:
        if state[0] == phase and look(state[1]) == word:
            return history_to(ways, state)
    return None
