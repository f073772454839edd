"""Point 2: names and parameters of the interface, each defined in the file under which it is listed."""

import inspect
import unittest

from fillbehind import (
    counts, desks, ends, errors, judging, laying, repairs, rollouts, runs, seen, sights, statements, states, texts, ways)

SIGNATURES = {
    (statements, "is_statement"): "(value)",
    (statements, "needs_read"): "(statement)",
    (statements, "needs_input"): "(statement)",
    (statements, "applied"): "(statement, row, value=None, seen=None)",
    (statements, "Affine"): "(scale, shift)",
    (statements, "shown"): "(row, convert)",
    (rollouts, "Writer"): "(name, *steps)",
    (rollouts, "Fill"): "(statement, *, batch=1, save='last', lock=False, only_missing=False, falls=False, again=False)",
    (rollouts, "Phase"): "(name, *, writers=(), fills=False, promises=(), waits=())",
    (rollouts, "Rollout"): "(writers, fill, phases, *, workers=1, hands=1, back=())",
    (runs, "Run"): "(rollout, rows)",
    (states, "is_state"): "(rollout, state)",
    (states, "symbols"): "(state)",
    (states, "starts"): "(rollout)",
    (states, "after"): "(rollout, state, deed)",
    (states, "moves"): "(rollout, state)",
    (states, "walk"): "(rollout, history)",
    (seen, "seen_at"): "(run, key)",
    (seen, "values_at"): "(run, key)",
    (judging, "breaks"): "(rollout, state)",
    (judging, "reached"): "(rollout, *, most=2000)",
    (judging, "judge"): "(rollout, *, most=2000)",
    (judging, "check_table"): "(rollout, table)",
    (judging, "check_history"): "(rollout, history)",
    (laying, "laid"): "(rollout, history, *, key=0, first=0)",
    (sights, "sights"): "(rollout, *, most=2000)",
    (sights, "sight"): "(rollout, phase, word, *, most=2000)",
    (counts, "does_fill"): "(rollout, state, deed)",
    (counts, "most_fills"): "(rollout, *, most=2000)",
    (counts, "check_fills"): "(rollout, answer)",
    (ends, "always_ends"): "(rollout, *, most=2000)",
    (ends, "check_ends"): "(rollout, answer)",
    (repairs, "options"): "(rollout)",
    (repairs, "verdicts"): "(rollout, some, *, most=2000)",
    (repairs, "least_repairs"): "(rollout, some, *, most=2000)",
    (ways, "without"): "(rollout, phase)",
    (ways, "with_way"): "(rollout, phase, earlier)",
    (ways, "spare_phases"): "(rollout, *, most=2000)",
    (ways, "ways_back"): "(rollout, *, most=2000)",
    (texts, "show_rollout"): "(rollout)",
    (texts, "read_rollout"): "(text)",
    (desks, "Desk"): "(rollout)",
}
METHODS = {
    "present": "(self)", "do": "(self, deed)", "calls": "(self)", "worker": "(self, index)", "last": "(self, key)",
    "count": "(self, key)", "broken": "(self)", "play": "(self, deeds)",
}


class TestInterface(unittest.TestCase):
    def test_signatures(self):
        for (module, name), told in SIGNATURES.items():
            found = getattr(module, name)
            self.assertEqual(str(inspect.signature(found)), told, name)
            self.assertEqual(found.__module__, module.__name__, name)

    def test_methods_stand_in_their_classes(self):
        self.assertIn("__call__", vars(statements.Affine))
        self.assertEqual(str(inspect.signature(statements.Affine.__call__)), "(self, value)")
        for name in ("__len__", "__or__", "__contains__", "__eq__"):
            self.assertIn(name, vars(rollouts.Rollout))
        for found in (statements.Affine, rollouts.Writer, rollouts.Fill, rollouts.Phase):
            self.assertIn("__eq__", vars(found))

    def test_methods_of_a_run(self):
        for name, told in METHODS.items():
            self.assertEqual(str(inspect.signature(vars(runs.Run)[name])), told, name)
        for name in ("__getitem__", "__contains__", "__len__"):
            self.assertIn(name, vars(runs.Run))
        self.assertIsInstance(vars(runs.Run)["phase"], property)
        self.assertTrue(inspect.isgeneratorfunction(runs.Run.play))
        self.assertTrue(inspect.isgeneratorfunction(states.walk))

    def test_methods_of_a_desk(self):
        for name in ("told", "take", "leave_out", "add_way", "put_fill", "put_writer", "put_phase", "undo", "redo", "verdict", "__len__"):
            self.assertIn(name, vars(desks.Desk))

    def test_errors(self):
        fields = {
            "NoStatement": (), "NoRow": ("part",), "NoNumber": ("part",), "NoWriter": ("part", "index"), "NoFill": ("part",),
            "NoPhase": ("part",), "NoRollout": ("part", "index"), "NoRun": ("part",), "NoKey": ("key",), "NoDeed": ("deed",),
            "NotNow": ("word",), "NoDeeds": ("index",), "NoState": (), "NoMove": ("deed",), "NoHistory": ("index",),
            "NoTable": ("index",), "TooMany": ("most",), "NoWord": ("word",), "NoAnswer": ("part", "index"), "NoOption": ("option",),
            "NoOptions": ("index",), "NoText": ("line",), "NoChange": ("word",),
        }
        self.assertEqual({name for name in vars(errors) if name[0].isupper()}, {"FillError", *fields})
        for name, told in fields.items():
            self.assertEqual(tuple(inspect.signature(getattr(errors, name)).parameters), told)
            self.assertEqual(getattr(errors, name).__bases__, (errors.FillError,))
        self.assertEqual(errors.FillError.__bases__, (ValueError,))
