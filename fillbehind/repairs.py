"""Options that make a rollout hold."""

from fillbehind.errors import NoOptions
from fillbehind.exploring import check_most
from fillbehind.judging import judge
from fillbehind.kinds import is_plain, is_sized
from fillbehind.rollouts import check_rollout, options_where


def options(rollout):
    """The list of the options that can be taken and are not there yet."""
    check_rollout(rollout)
    return options_where(rollout, False)


def verdicts(rollout, some, *, most=2000):
    """What is judged of a rollout with each part of some options, the smaller parts first."""
    check_rollout(rollout)
    check_options(rollout, some)
    check_most(most)
    found = []
    for places in parts_of(len(some)):
        part = tuple([some[at] for at in places])
        found.append((part, judge(stricter(rollout, part), most=most)))
    return found


def least_repairs(rollout, some, *, most=2000):
    """The parts of some options with which a rollout holds, but not with a smaller part of them."""
    holding = [part for part, answer in verdicts(rollout, some, most=most) if answer[0] == "holds"]
    return [part for part in holding if not any([is_smaller(other, part) for other in holding])]


def check_options(rollout, some):
    """Raise the error that is stated for what is no list of at most four different options."""
    if not is_sized(some, 0, 4):
        raise NoOptions(-1)
    known = options_where(rollout, False)
    for at, option in enumerate(some):
        if not is_plain(option) or option not in known or option in some[:at]:
            raise NoOptions(at)


def parts_of(many):
    """The parts of so many places: those with fewer places first, then in the order of their places."""
    found = []
    parts = [()]
    while len(parts) > 0:
        found.extend(parts)
        parts = [part + (at,) for part in parts for at in range(many) if len(part) == 0 or at > part[-1]]
    return found


def stricter(rollout, part):
    """The rollout with the options of a part."""
    for option in part:
        rollout = rollout | option
    return rollout


def is_smaller(part, other):
    """Tell whether a part has some of the options of another one, but not all, and no further ones."""
    return len(part) < len(other) and all([option in other for option in part])
