"""What tests of several files have in common."""

import random
import unittest

from fillbehind.errors import NoAnswer
from fillbehind.rollouts import Rollout
from fillbehind.states import is_state, moves, starts
from tests import strange
from tests.rolls import rollout as made


class Case(unittest.TestCase):
    def fails(self, error, fields, call, *given, **named):
        """The call raises this very error with these very fields."""
        with self.assertRaises(error) as caught:
            call(*given, **named)
        self.assertIs(type(caught.exception), error)
        found = vars(caught.exception)
        self.assertEqual(set(found), set(fields))
        for field, value in fields.items():
            if type(value) in (str, int):
                self.assertIs(type(found[field]), type(value))
                self.assertEqual(found[field], value)
            else:
                self.assertIs(found[field], value)


def no_rollouts():
    """Values that are no Rollout."""
    return [value for value in strange.values() if type(value) is not Rollout]


def no_integers():
    """Values that are no integer."""
    return [value for value in strange.values() if type(value) is not int]


def levels(rollout):
    """How many deeds each state that can be reached is away from the starts, told by the moves alone."""
    found = {state: 0 for state in starts(rollout)}
    edge = list(found)
    while edge:
        following = []
        for state in edge:
            for _, behind in moves(rollout, state):
                if behind not in found:
                    found[behind] = found[state] + 1
                    following.append(behind)
        edge = following
    return found


# Seeds of rollouts with few states, so that a test can go through these many times.
SMALL = [seed for seed in range(60) if len(levels(made(seed, small=True))) <= 300]


def wrong_items(rollout, marks):
    """The first thing that [41] and [44] find in the items of marks alone, None if there is none."""
    if type(marks) not in (list, tuple):
        return ("marks", -1)
    known = {}
    for at, item in enumerate(marks):
        if type(item) is not tuple or len(item) != 2 or not is_state(rollout, item[0]):
            return ("marks", at)
        if type(item[1]) is not int or item[1] < 0 or known.setdefault(item[0], item[1]) != item[1]:
            return ("marks", at)
    return None


class AnswerCase(Case):
    """Tests of answers that a function of the package tells, that another one checks, and that a model checks, too."""

    def agrees(self, check, model, rollout, answer):
        """The check tells of an answer what the model tells; whether it is refused."""
        part = model(rollout, answer)
        if part is None:
            self.assertIs(check(rollout, answer), None)
            return False
        self.fails(NoAnswer, dict(zip(("part", "index"), part)), check, rollout, answer)
        return True

    def all_agree(self, tell, check, model, bend):
        """So it is with answers that are bent in one place, and with those for another rollout."""
        refused = 0
        for seed, other in zip(SMALL, SMALL[1:]):
            rollout, other = made(seed, small=True), made(other, small=True)
            chance, answer = random.Random(seed), tell(rollout)
            refused += sum(self.agrees(check, model, rollout, bend(chance, answer)) for _ in range(25))
            self.agrees(check, model, rollout, tell(other))
        self.assertGreater(refused, 500)
