"""What tests of several files have in common."""

import unittest

from fillbehind.rollouts import Rollout
from fillbehind.states import moves, starts
from tests import strange
from tests.rolls import rollout as made


class Case(unittest.TestCase):
    def fails(self, error, fields, call, *given, **named):
        """The call raises this very error with these very fields."""
        with self.assertRaises(error) as caught:
            call(*given, **named)
        self.assertIs(type(caught.exception), error)
        found = vars(caught.exception)
        self.assertEqual(set(found), set(fields))
        for field, value in fields.items():
            if type(value) in (str, int):
                self.assertIs(type(found[field]), type(value))
                self.assertEqual(found[field], value)
            else:
                self.assertIs(found[field], value)


def no_rollouts():
    """Values that are no Rollout."""
    return [value for value in strange.values() if type(value) is not Rollout]


def no_integers():
    """Values that are no integer."""
    return [value for value in strange.values() if type(value) is not int]


def levels(rollout):
    """How many deeds each state that can be reached is away from the starts, told by the moves alone."""
    found = {state: 0 for state in starts(rollout)}
    edge = list(found)
    while edge:
        following = []
        for state in edge:
            for _, behind in moves(rollout, state):
                if behind not in found:
                    found[behind] = found[state] + 1
                    following.append(behind)
        edge = following
    return found


# Seeds of rollouts with few states, so that a test can go through these many times.
SMALL = [seed for seed in range(60) if len(levels(made(seed, small=True))) <= 300]
