"""Point 2: names and parameters of the interface, each defined in the file under which it is listed."""

import inspect
import unittest

from fillbehind import rollouts, statements

SIGNATURES = {
    (statements, "is_statement"): "(value)",
    (statements, "needs_read"): "(statement)",
    (statements, "needs_input"): "(statement)",
    (statements, "applied"): "(statement, row, value=None, seen=None)",
    (statements, "Affine"): "(scale, shift)",
    (statements, "shown"): "(row, convert)",
    (rollouts, "Writer"): "(name, *steps)",
    (rollouts, "Fill"): "(statement, *, batch=1, save='last', lock=False, only_missing=False, falls=False, again=False)",
    (rollouts, "Phase"): "(name, *, writers=(), fills=False, promises=(), waits=())",
    (rollouts, "Rollout"): "(writers, fill, phases, *, workers=1, hands=1, back=())",
}


class TestInterface(unittest.TestCase):
    def test_signatures(self):
        for (module, name), told in SIGNATURES.items():
            found = getattr(module, name)
            self.assertEqual(str(inspect.signature(found)), told, name)
            self.assertEqual(found.__module__, module.__name__, name)

    def test_methods_stand_in_their_classes(self):
        self.assertIn("__call__", vars(statements.Affine))
        self.assertEqual(str(inspect.signature(statements.Affine.__call__)), "(self, value)")
        for name in ("__len__", "__or__", "__contains__", "__eq__"):
            self.assertIn(name, vars(rollouts.Rollout))
        for found in (statements.Affine, rollouts.Writer, rollouts.Fill, rollouts.Phase):
            self.assertIn("__eq__", vars(found))
