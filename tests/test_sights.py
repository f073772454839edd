"""Point 38: what is seen in each phase."""

import time

from fillbehind.errors import NoNumber, NoRollout, NoWord, TooMany
from fillbehind.rollouts import Fill, Phase, Rollout, Writer
from fillbehind.sights import sight, sights
from fillbehind.states import walk
from tests import strange
from tests.cases import SMALL, Case, levels, no_integers, no_rollouts
from tests.rolls import BOTH, COPY, KEEP, NOW, TAKE, example, one, rollout as made, wide

LOOKS = ("absent", "missing", "right", "wrong")


def look(row):
    """What [38] and [1] tell, written a second time."""
    if row is None:
        return "absent"
    return "missing" if row[1] is None else "right" if row[0] == row[1] else "wrong"


class TestSights(Case):
    def test_example(self):
        rollout = one(BOTH, fill=NOW, promises=("mild", "once"), name="fresh")
        self.assertEqual(sights(rollout), [("absent", "missing", "right")])
        self.assertEqual(sights(example()), [LOOKS])

    def test_phases_that_cannot_be_reached(self):
        phases = [Phase("one", waits=("done",)), Phase("two", fills=True), Phase("three")]
        rollout = Rollout([Writer("w", KEEP)], Fill(COPY), phases)
        self.assertEqual(sights(rollout), [("absent", "missing"), (), ()])
        for word in LOOKS:
            self.assertIs(sight(rollout, 1, word), None)
            self.assertIs(sight(rollout, 2, word), None)

    def test_each_phase_by_itself(self):
        phases = [Phase("one"), Phase("two", writers=("w",)), Phase("three"), Phase("four", writers=("x",))]
        writers = [Writer("w", ("set", "keep", "now", ())), Writer("x", ("delete", ()))]
        rollout = Rollout(writers, Fill(COPY), phases)
        seen = ("absent", "missing")
        self.assertEqual(sights(rollout), [seen, (*seen, "right"), (*seen, "right"), (*seen, "right")])

    def test_the_order_of_the_words(self):
        # Here the rows are wrong first, then missing, right and absent.
        wrong = Rollout(
            [Writer("a", ("set", "keep", "now", ())), Writer("b", TAKE), Writer("c", ("set", "keep", "none", ()))],
            Fill(COPY), [Phase("one", writers=("a",)), Phase("two", writers=("b",)), Phase("three", writers=("c",))])
        self.assertEqual(sights(wrong), [("absent", "missing", "right"), LOOKS, LOOKS])

    def test_all_answers(self):
        found = set()
        for seed in SMALL:
            rollout = made(seed, small=True)
            known = levels(rollout)
            told = sights(rollout)
            self.assertEqual(type(told), list)
            self.assertEqual(len(told), len(rollout))
            for phase in range(len(rollout)):
                seen = {look(state[1]) for state in known if state[0] == phase}
                self.assertEqual(told[phase], tuple(word for word in LOOKS if word in seen))
                for word in LOOKS:
                    history = sight(rollout, phase, word)
                    if word not in seen:
                        self.assertIs(history, None)
                        continue
                    self.assertEqual((type(history), type(history[1])), (tuple, list))
                    last = list(walk(rollout, history))[-1]
                    self.assertEqual((last[0], look(last[1])), (phase, word))
                    least = min(known[state] for state in known if state[0] == phase and look(state[1]) == word)
                    self.assertEqual(len(history[1]), least)
                    self.assertEqual(sight(rollout, phase, word), history)
            found |= set(told)
        self.assertGreater(len(found), 4)

    def test_starts(self):
        self.assertEqual(sight(example(), 0, "absent"), (0, []))
        self.assertEqual(sight(example(), 0, "missing"), (1, []))
        self.assertEqual(len(sight(word="wrong", phase=0, rollout=example())[1]), 3)

    def test_new_lists(self):
        sights(example()).append(7)
        sight(example(), 0, "right")[1].append(7)
        self.assertEqual(sights(example()), [LOOKS])
        self.assertNotIn(7, sight(example(), 0, "right")[1])

    def test_time(self):
        ahead = time.monotonic()
        self.assertEqual(sights(wide(4)), [("absent", "missing", "right")] * 4)
        self.assertIs(sight(wide(4), 3, "wrong"), None)
        self.assertEqual(len(sight(wide(4), 3, "right")[1]), 4)
        self.assertLess(time.monotonic() - ahead, 20)


class TestErrors(Case):
    def test_no_rollout(self):
        for value in no_rollouts():
            self.fails(NoRollout, {"part": "rollout", "index": -1}, sights, value)
            self.fails(NoRollout, {"part": "rollout", "index": -1}, sights, value, most=0)
            self.fails(NoRollout, {"part": "rollout", "index": -1}, sight, value, 0, "right")
            self.fails(NoRollout, {"part": "rollout", "index": -1}, sight, value, -1, "x", most=0)

    def test_phase(self):
        for value in [*no_integers(), -1, 1, 2, strange.GREAT, -strange.GREAT]:
            self.fails(NoNumber, {"part": "phase"}, sight, example(), value, "right")
            self.fails(NoNumber, {"part": "phase"}, sight, example(), value, "x", most=0)

    def test_word(self):
        for value in [*strange.values(), "Right", "mild", "none", " right", ("right",), ["right"]]:
            self.fails(NoWord, {"word": value}, sight, example(), 0, value)
            self.fails(NoWord, {"word": value}, sight, example(), 0, value, most=0)

    def test_most(self):
        for value in [*no_integers(), 0, -1, -strange.GREAT]:
            self.fails(NoNumber, {"part": "most"}, sights, example(), most=value)
            self.fails(NoNumber, {"part": "most"}, sight, example(), 0, "right", most=value)
        for call in (lambda: sights(example(), 5), lambda: sight(example(), 0, "right", 5)):
            with self.assertRaises(TypeError):
                call()

    def test_too_many(self):
        for seed in SMALL[:20]:
            rollout = made(seed, small=True)
            many = len(levels(rollout))
            self.assertEqual(sights(rollout, most=many), sights(rollout))
            self.assertEqual(sight(rollout, 0, "absent", most=many), (0, []))
            for most in (1, many - 1):
                if most < many:
                    self.fails(TooMany, {"most": most}, sights, rollout, most=most)
                    # The answer is no deed away, and yet there are too many.
                    self.fails(TooMany, {"most": most}, sight, rollout, 0, "absent", most=most)
                    self.fails(NoWord, {"word": "x"}, sight, rollout, 0, "x", most=most)
                    self.fails(NoNumber, {"part": "phase"}, sight, rollout, -1, "x", most=most)
