"""All examples of the document: each block is a session, and its last line is what the last call tells or raises."""

import ast
import unittest

from fillbehind.errors import FillError

EXAMPLES = r"""
>>> from fillbehind.statements import applied
>>> [applied(("set", "input", "now", ()), (3, None), 8), applied(("set", "keep", "read", ("same old",)), (8, None), None, (3, None)), applied(("put", "now", ()), None, None, (3, None))]
[((8, 8), True), ((8, None), False), ((3, 3), True)]

>>> from fillbehind.statements import Affine, shown
>>> shown((3, 5), Affine(2, 1))
(3, 11)

>>> from fillbehind.rollouts import Writer
>>> Writer("old", ("set", "keep", "read", ()))
raises NoWriter(part='steps', index=0)

>>> from fillbehind.rollouts import Fill, Phase, Rollout, Writer
>>> writer = Writer("old", ("set", "input", "keep", ()))
>>> fill = Fill(("set", "keep", "read", ()), batch=2)
>>> phase = Phase("one", writers=("old",), fills=True, promises=("mild",))
>>> rollout = Rollout([writer], fill, [phase])
>>> from fillbehind.runs import Run
>>> run = Run(rollout, {7: 3})
>>> [list(run.play([("batch", 0), ("call", "old", 7, 5), ("set", 0)])), run[7]]
[[None, None, (7, ('mild',))], (5, 3)]

>>> from fillbehind.rollouts import Fill, Phase, Rollout, Writer
>>> writer = Writer("old", ("set", "input", "keep", ()))
>>> fill = Fill(("set", "keep", "read", ()), batch=2)
>>> phase = Phase("one", writers=("old",), fills=True, promises=("mild",))
>>> rollout = Rollout([writer], fill, [phase])
>>> from fillbehind.runs import Run
>>> from fillbehind.seen import seen_at, values_at
>>> run = Run(rollout, {7: 3})
>>> told = list(run.play([("batch", 0), ("call", "old", 7, 5), ("set", 0)]))
>>> [seen_at(run, 7), values_at(run, 7), seen_at(run, 9)]
[(0, (0, 1), None, 0, (('over', None),), ()), [5, 3], (0, None, None, 0, (('ahead', None),), ())]

>>> from fillbehind.rollouts import Fill, Phase, Rollout, Writer
>>> writer = Writer("old", ("set", "input", "keep", ()))
>>> fill = Fill(("set", "keep", "read", ()), batch=2)
>>> phase = Phase("one", writers=("old",), fills=True, promises=("mild",))
>>> rollout = Rollout([writer], fill, [phase])
>>> from fillbehind.judging import judge
>>> from fillbehind.laying import laid
>>> history = (1, [("read", 0), ("call", "old", 1), ("set", 0)])
>>> [judge(rollout)[0], len(judge(rollout)[1][1]), laid(rollout, history, key=7, first=3)]
['breaks', 3, ({7: 3}, [('batch', 0), ('call', 'old', 7, 4), ('set', 0)])]

>>> from fillbehind.rollouts import Fill, Phase, Rollout, Writer
>>> writer = Writer("old", ("set", "input", "keep", ()))
>>> fill = Fill(("set", "keep", "read", ()), batch=2)
>>> phase = Phase("one", writers=("old",), fills=True, promises=("mild",))
>>> rollout = Rollout([writer], fill, [phase])
>>> from fillbehind.texts import show_rollout
>>> show_rollout(rollout)
'hands 1\nworkers 1\nwriter old: set input keep\nfill by 2: set keep read; save last\nphase one: writers old; fills; promises mild\n'

>>> from fillbehind.counts import most_fills
>>> from fillbehind.ends import always_ends
>>> from fillbehind.judging import judge
>>> from fillbehind.rollouts import Fill, Phase, Rollout, Writer
>>> from fillbehind.sights import sights
>>> writer = Writer("fresh", ("set", "input", "now", ()))
>>> fill = Fill(("set", "keep", "now", ()))
>>> phase = Phase("one", writers=("fresh",), fills=True, promises=("mild", "once"))
>>> rollout = Rollout([writer], fill, [phase])
>>> [judge(rollout)[0], sights(rollout), most_fills(rollout)[:2], always_ends(rollout)[0]]
['holds', [('absent', 'missing', 'right')], ('most', 1), 'always']

>>> from fillbehind.repairs import least_repairs, options
>>> from fillbehind.rollouts import Fill, Phase, Rollout, Writer
>>> writer = Writer("fresh", ("set", "input", "now", ()))
>>> fill = Fill(("set", "keep", "read", ()))
>>> phase = Phase("one", writers=("fresh",), fills=True, promises=("mild",))
>>> rollout = Rollout([writer], fill, [phase])
>>> [options(rollout), least_repairs(rollout, [("fill", "same old"), ("fill", "lock")])]
[[('check', 'fresh', 0, 'missing'), ('fill', 'missing'), ('fill', 'same old'), ('fill', 'same new'), ('fill', 'lock'), ('fill', 'only missing')], [(('fill', 'same old'),), (('fill', 'lock'),)]]
"""


def session(block):
    """What the last row of a session tells, or the error that it raises."""
    rows = [row[4:] for row in block.split("\n") if row.startswith(">>> ")]
    names = {}
    for row in rows[:-1]:
        exec(row, names)
    return eval(rows[-1], names)


def field(keyword):
    return keyword.arg, ast.literal_eval(keyword.value)


class TestExamples(unittest.TestCase):
    def test_all(self):
        blocks = EXAMPLES.strip().split("\n\n")
        self.assertEqual(len(blocks), 9)
        for block in blocks:
            told = block.split("\n")[-1]
            with self.subTest(block=block):
                if not told.startswith("raises "):
                    self.assertEqual(repr(session(block)), repr(ast.literal_eval(told)))
                    continue
                call = ast.parse(told.removeprefix("raises "), mode="eval").body
                with self.assertRaises(FillError) as caught:
                    session(block)
                self.assertEqual(type(caught.exception).__name__, call.func.id)
                self.assertEqual(vars(caught.exception), dict(map(field, call.keywords)))
