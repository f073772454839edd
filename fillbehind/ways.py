"""Phases that can be left out, and ways back that can be added."""

from fillbehind.errors import NoNumber
from fillbehind.exploring import check_most
from fillbehind.judging import judge
from fillbehind.kinds import is_between
from fillbehind.rollouts import check_rollout, is_way, rebuilt


def without(rollout, phase):
    """The rollout without a phase."""
    check_rollout(rollout)
    if len(rollout) == 1 or not is_between(phase, 0, len(rollout) - 1):
        raise NoNumber("phase")
    phases = rollout.phases[:phase] + rollout.phases[phase + 1:]
    back = [tuple([renumbered(at, phase) for at in way]) for way in rollout.back if phase not in way]
    return rebuilt(rollout, rollout.writers, rollout.fill, phases, back)


def renumbered(at, gone):
    """The index that a phase has when another one is gone."""
    return at - 1 if at > gone else at


def spare_phases(rollout, *, most=2000):
    """The ascending list of the phases without which a rollout holds."""
    check_rollout(rollout)
    check_most(most)
    if len(rollout) == 1:
        return []
    judged = [(phase, judge(without(rollout, phase), most=most)) for phase in range(len(rollout))]
    return [phase for phase, answer in judged if answer[0] == "holds"]


def with_way(rollout, phase, earlier):
    """The rollout with one more way back, behind the others."""
    check_rollout(rollout)
    if not is_between(phase, 0, len(rollout) - 1):
        raise NoNumber("phase")
    way = (phase, earlier)
    if not is_way(way, len(rollout)) or way in rollout.back:
        raise NoNumber("earlier")
    return rebuilt(rollout, rollout.writers, rollout.fill, rollout.phases, rollout.back + (way,))


def ways_back(rollout, *, most=2000):
    """The ascending list of the ways back with which, one alone, a rollout holds."""
    check_rollout(rollout)
    check_most(most)
    ways = [(phase, earlier) for phase in range(len(rollout)) for earlier in range(phase)]
    added = [way for way in ways if way not in rollout.back]
    judged = [(way, judge(with_way(rollout, way[0], way[1]), most=most)) for way in added]
    return [way for way, answer in judged if answer[0] == "holds"]
