"""Point 46, as far as | and in of a rollout go."""

import unittest

from fillbehind.errors import NoOption
from fillbehind.rollouts import Fill, Phase, Rollout, Writer
from tests import strange

ALL = ("missing", "same old", "same new")
READ = ("read",)


def rollout():
    return Rollout(
        [
            Writer("plain", ("set", "input", "keep", ()), ("insert", "now"), ("delete", ("missing",))),
            Writer("reads", ("delete", ()), READ, ("put", "now", ("same old",))),
            Writer("full", READ, ("set", "keep", "copy", ALL)),
        ],
        Fill(("set", "keep", "read", ("same old",)), batch=3, save="first", falls=True),
        [Phase("one", writers=("plain", "full"), promises=("mild",)),
         Phase("two", fills=True, waits=("drained",)),
         Phase("three", waits=("done",))],
        workers=2, hands=2, back=[(2, 0), (1, 0)],
    )


OPEN = [
    ("check", "plain", 0, "missing"),
    ("check", "reads", 0, "missing"), ("check", "reads", 2, "missing"), ("check", "reads", 2, "same new"),
    ("fill", "missing"), ("fill", "same new"), ("fill", "lock"), ("fill", "only missing"), ("fill", "save last"),
    ("wait", "one", "done"), ("wait", "one", "drained"), ("wait", "two", "done"),
]
THERE = [
    ("check", "plain", 2, "missing"), ("check", "reads", 2, "same old"),
    ("check", "full", 1, "missing"), ("check", "full", 1, "same old"), ("check", "full", 1, "same new"),
    ("fill", "same old"), ("wait", "two", "drained"),
]
NEVER = [
    ("check", "plain", 0, "same old"), ("check", "plain", 2, "same new"), ("check", "plain", 1, "missing"),
    ("check", "reads", 0, "same old"), ("check", "reads", 1, "missing"), ("check", "reads", 1, "same old"),
    ("check", "full", 0, "missing"), ("check", "plain", 3, "missing"), ("check", "plain", -1, "missing"),
    ("check", "plain", -3, "missing"), ("check", "none", 0, "missing"), ("check", "plain", False, "missing"),
    ("check", "full", True, "missing"), ("check", "plain", 0, "Missing"), ("check", "plain", 0, "done"),
    ("check", "plain", 0), ("check", "plain", 0, "missing", ()), ("check", 0, 0, "missing"), ("check", "plain", "missing"),
    ("check", "plain", strange.GREAT, "missing"), ("check", ["plain"], 0, "missing"), ("check", "plain", 0, ("missing",)),
    ("fill", "falls"), ("fill", "again"), ("fill", "save first"), ("fill", "save"), ("fill", "only_missing"),
    ("fill", "last"), ("fill",), ("fill", "lock", True), ("fill", 0), ("fill", "batch"),
    ("wait", "three", "done"), ("wait", "three", "drained"), ("wait", "one", "mild"), ("wait", "none", "done"),
    ("wait", 0, "done"), ("wait", "one"), ("wait", "one", "done", "drained"), ("wait", "plain", "done"),
    ("read", "one"), ("Fill", "lock"), ("lock",), (), ("check",), ("wait",),
]


class TestOptions(unittest.TestCase):
    def refused(self, given, option):
        with self.assertRaises(NoOption) as caught:
            given | option
        self.assertIs(caught.exception.option, option)

    def test_every_option_that_can_be_taken(self):
        for option in OPEN:
            given = rollout()
            self.assertIs(option in given, False, option)
            more = given | option
            self.assertIs(type(more), Rollout)
            self.assertEqual(given, rollout())
            self.assertNotEqual(more, given)
            self.assertIs(option in more, True, option)
            self.refused(more, option)
            for other in OPEN:
                self.assertIs(other in more, other == option)
            for other in THERE:
                self.assertIs(other in more, True)

    def test_options_that_are_there(self):
        for option in THERE:
            self.assertIs(option in rollout(), True, option)
            self.refused(rollout(), option)

    def test_options_that_are_none(self):
        lists = [list(option) for option in OPEN + THERE]
        for value in NEVER + lists + [(option,) for option in OPEN] + strange.values():
            self.assertIs(value in rollout(), False)
            self.refused(rollout(), value)
        for value in strange.values():
            for option in OPEN + THERE:
                for at in range(len(option)):
                    almost = option[:at] + (value,) + option[at + 1:]
                    # The integers that are indexes of steps may make another option.
                    if type(value) is not int or value not in (0, 1, 2) or type(option[at]) is not int:
                        self.assertIs(almost in rollout(), False)
                        self.refused(rollout(), almost)

    def test_all_forms_are_named_here(self):
        forms = [("check", name, at, word) for name in ("plain", "reads", "full") for at in range(3) for word in ALL]
        forms += [("fill", word) for word in (*ALL, "lock", "only missing", "save last")]
        forms += [("wait", name, word) for name in ("one", "two", "three") for word in ("done", "drained")]
        for option in forms:
            self.assertIs(option in rollout(), option in THERE, option)
            if option in OPEN:
                self.assertIs(option in (rollout() | option), True)
            else:
                self.refused(rollout(), option)

    def test_what_a_check_of_a_writer_changes(self):
        more = rollout() | ("check", "reads", 2, "missing")
        writers = rollout().writers
        changed = Writer("reads", ("delete", ()), READ, ("put", "now", ("missing", "same old")))
        self.assertEqual(more.writers, (writers[0], changed, writers[2]))
        more = rollout() | ("check", "plain", 0, "missing")
        changed = Writer("plain", ("set", "input", "keep", ("missing",)), ("insert", "now"), ("delete", ("missing",)))
        self.assertEqual(more.writers, (changed, *writers[1:]))
        self.assertEqual((more.fill, more.phases), (rollout().fill, rollout().phases))
        self.assertEqual((more.workers, more.hands, more.back), (2, 2, ((2, 0), (1, 0))))

    def test_what_an_option_of_the_fill_changes(self):
        for word, told in [
            ("missing", {"statement": ("set", "keep", "read", ("missing", "same old"))}),
            ("same new", {"statement": ("set", "keep", "read", ("same old", "same new"))}),
            ("lock", {"lock": True}), ("only missing", {"only_missing": True}), ("save last", {"save": "last"}),
        ]:
            more = rollout() | ("fill", word)
            self.assertEqual(vars(more.fill), {**vars(rollout().fill), **told})
            self.assertEqual((more.writers, more.phases), (rollout().writers, rollout().phases))
            self.assertEqual((more.workers, more.hands, more.back), (2, 2, ((2, 0), (1, 0))))

    def test_flags_of_the_fill_that_are_there(self):
        full = Rollout(
            [Writer("w", ("insert", "now"))],
            Fill(("put", "now", ALL), lock=True, only_missing=True, falls=True, again=True), [Phase("p")],
        )
        for word in (*ALL, "lock", "only missing", "save last"):
            self.assertIs(("fill", word) in full, True, word)
            self.refused(full, ("fill", word))
        self.assertIs(("fill", "falls") in full, False)
        self.assertIs(("fill", "again") in full, False)
        other = Rollout(full.writers, Fill(("put", "now", ()), batch=9, lock=True, again=True), full.phases)
        more = other | ("fill", "same new") | ("fill", "only missing")
        self.assertEqual(
            more.fill, Fill(("put", "now", ("same new",)), batch=9, lock=True, only_missing=True, again=True))

    def test_what_a_wait_changes(self):
        phases = rollout().phases
        more = rollout() | ("wait", "two", "done")
        self.assertEqual(more.phases, (phases[0], Phase("two", fills=True, waits=("done", "drained")), phases[2]))
        more = rollout() | ("wait", "one", "drained")
        changed = Phase("one", writers=("plain", "full"), promises=("mild",), waits=("drained",))
        self.assertEqual(more.phases, (changed, *phases[1:]))
        self.assertEqual((more.fill, more.writers), (rollout().fill, rollout().writers))
        self.assertEqual((more.workers, more.hands, more.back), (2, 2, ((2, 0), (1, 0))))

    def test_waits_of_one_phase_alone(self):
        single = Rollout([Writer("w", ("insert", "now"))], Fill(("put", "now", ())), [Phase("p", waits=("done",))])
        for word in ("done", "drained"):
            self.assertIs(("wait", "p", word) in single, False)
            self.refused(single, ("wait", "p", word))

    def test_all_options_one_behind_the_other(self):
        forward = backward = rollout()
        for option in OPEN:
            forward = forward | option
        for option in reversed(OPEN):
            backward |= option
        self.assertEqual(forward, backward)
        self.assertEqual(forward.writers[1].steps[2], ("put", "now", ALL))
        for option in OPEN + THERE:
            self.assertIs(option in forward, True)
        self.assertEqual((forward.counts, forward.keeps), (False, False))

    def test_a_writer_and_a_phase_of_one_name(self):
        both = Rollout([Writer("x", ("delete", ()))], Fill(("put", "now", ())), [Phase("x"), Phase("y")])
        self.assertEqual((both | ("wait", "x", "done")).writers, both.writers)
        self.assertEqual((both | ("check", "x", 0, "missing")).phases, both.phases)
