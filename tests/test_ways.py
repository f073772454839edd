"""Point 49: phases that can be left out, and ways back."""

import inspect
import time

from fillbehind.errors import NoNumber, NoRollout, TooMany
from fillbehind.judging import judge
from fillbehind.rollouts import Fill, Phase, Rollout, Writer
from fillbehind.ways import spare_phases, ways_back, with_way, without
from tests import strange
from tests.cases import SMALL, Case, levels, no_integers, no_rollouts
from tests.rolls import BOTH, COPY, KEEP, NOW, TAKE, example, one, rollout as made, wide

NAMES = ("one", "two", "three", "four", "five", "six")


def phased(many, back=(), **more):
    phases = [Phase(name, writers=("w",), fills=at % 2 == 0) for at, name in enumerate(NAMES[:many])]
    return Rollout([Writer("w", KEEP)], Fill(COPY), phases, back=back, **more)


def all_ways(many):
    return [(phase, earlier) for phase in range(many) for earlier in range(phase)]


def same_but(case, told, rollout, **parts):
    """The rollout told has these parts, and all others of the other one."""
    case.assertIs(type(told), Rollout)
    for part in ("writers", "fill", "phases", "workers", "hands", "back"):
        case.assertEqual(getattr(told, part), parts.get(part, getattr(rollout, part)), part)


class TestWithout(Case):
    def test_each_phase(self):
        for many in range(2, 7):
            for phase in range(many):
                rollout = phased(many, workers=2, hands=0)
                phases = tuple(other for at, other in enumerate(rollout.phases) if at != phase)
                same_but(self, without(rollout, phase), rollout, phases=phases)
                self.assertEqual(without(phase=phase, rollout=rollout), without(rollout, phase))
                self.assertEqual(rollout, phased(many, workers=2, hands=0))

    def test_pairs_are_numbered_anew(self):
        rollout = phased(4, [(3, 0), (1, 0), (3, 2), (2, 1), (3, 1), (2, 0)], hands=2)
        for phase, back in [
            (0, ((2, 1), (1, 0), (2, 0))), (1, ((2, 0), (2, 1), (1, 0))), (2, ((2, 0), (1, 0), (2, 1))), (3, ((1, 0), (2, 1), (2, 0))),
        ]:
            self.assertEqual(without(rollout, phase).back, back)
            self.assertEqual(without(rollout, phase).hands, 2)

    def test_pairs_by_names(self):
        for many in range(2, 6):
            for back in (all_ways(many), all_ways(many)[::-1], all_ways(many)[::2]):
                rollout = phased(many, back)
                for phase in range(many):
                    told = without(rollout, phase)
                    names = [(rollout.phases[late].name, rollout.phases[early].name) for late, early in back if phase not in (late, early)]
                    self.assertEqual([(told.phases[late].name, told.phases[early].name) for late, early in told.back], names)

    def test_what_the_rollout_promises(self):
        phases = [Phase("one", promises=("kept",)), Phase("two", promises=("once",)), Phase("three", waits=("done",))]
        rollout = Rollout([Writer("w", KEEP)], Fill(COPY), phases)
        self.assertEqual([(told.keeps, told.counts) for told in (without(rollout, at) for at in range(3))],
                         [(False, True), (True, False), (True, True)])

    def test_errors(self):
        for value in no_rollouts():
            self.fails(NoRollout, {"part": "rollout", "index": -1}, without, value, 0)
            self.fails(NoRollout, {"part": "rollout", "index": -1}, without, value, "x")
        for value in [*no_integers(), -1, 3, strange.GREAT, -strange.GREAT]:
            self.fails(NoNumber, {"part": "phase"}, without, phased(3), value)
        for value in [*strange.values(), 0]:
            self.fails(NoNumber, {"part": "phase"}, without, phased(1), value)


class TestSparePhases(Case):
    def test_by_hand(self):
        # The phase in the middle alone breaks what it promises.
        phases = [Phase("one", writers=("b",)), Phase("two", writers=("b", "t"), promises=("mild",)), Phase("three")]
        writers = [Writer("b", BOTH), Writer("t", TAKE)]
        self.assertEqual(spare_phases(Rollout(writers, Fill(NOW), phases)), [1])
        # Each of the two phases is spare by itself, where nothing breaks.
        self.assertEqual(spare_phases(phased(3)), [0, 1, 2])
        phases = [Phase("one", writers=("b",)), Phase("two", writers=("b", "t")), Phase("three", promises=("mild",))]
        self.assertEqual(spare_phases(rollout=Rollout(writers, Fill(NOW), phases)), [1, 2])
        phases = [Phase("one", writers=("b",)), Phase("two", writers=("t",)), Phase("three", promises=("mild",))]
        self.assertEqual(spare_phases(Rollout(writers, Fill(NOW), phases)), [0, 1, 2])

    def test_one_phase_alone(self):
        self.assertEqual(spare_phases(phased(1)), [])
        self.assertEqual(spare_phases(example(), most=1), [])

    def test_all_answers(self):
        found = set()
        for seed in range(120):
            rollout = made(seed, small=seed % 2 == 0)
            if len(rollout) == 1:
                self.assertEqual(spare_phases(rollout, most=1), [])
                continue
            made_ones = [without(rollout, phase) for phase in range(len(rollout))]
            try:
                words = [judge(other)[0] for other in made_ones]
            except TooMany:
                self.fails(TooMany, {"most": 2000}, spare_phases, rollout)
                continue
            told = spare_phases(rollout)
            self.assertEqual((type(told), told), (list, [phase for phase, word in enumerate(words) if word == "holds"]))
            found.add((len(rollout), len(told)))
        self.assertGreater(len(found), 5)

    def test_errors(self):
        for value in no_rollouts():
            self.fails(NoRollout, {"part": "rollout", "index": -1}, spare_phases, value)
            self.fails(NoRollout, {"part": "rollout", "index": -1}, spare_phases, value, most=0)
        for value in [*no_integers(), 0, -1, -strange.GREAT]:
            self.fails(NoNumber, {"part": "most"}, spare_phases, phased(2), most=value)
            self.fails(NoNumber, {"part": "most"}, spare_phases, phased(1), most=value)
        with self.assertRaises(TypeError):
            spare_phases(phased(2), 2000)

    def test_too_many(self):
        for seed in SMALL:
            rollout = made(seed, small=True)
            if len(rollout) > 1:
                most = max(len(levels(without(rollout, phase))) for phase in range(len(rollout)))
                spare_phases(rollout, most=most)
                self.fails(TooMany, {"most": most - 1}, spare_phases, rollout, most=most - 1)

    def test_the_states_of_the_given_one_are_not_counted(self):
        rollout = phased(2)
        many = len(levels(rollout))
        most = max(len(levels(without(rollout, phase))) for phase in range(2))
        self.assertLess(most, many)
        self.assertEqual(spare_phases(rollout, most=most), [0, 1])
        self.fails(TooMany, {"most": most}, judge, rollout, most=most)


class TestWithWay(Case):
    def test_each_pair(self):
        for back in ((), ((3, 1),), ((2, 0), (1, 0))):
            rollout = phased(4, back, workers=2, hands=2)
            for way in all_ways(4):
                if way in back:
                    self.fails(NoNumber, {"part": "earlier"}, with_way, rollout, *way)
                else:
                    same_but(self, with_way(rollout, *way), rollout, back=(*back, way))
                    self.assertEqual(with_way(earlier=way[1], phase=way[0], rollout=rollout), with_way(rollout, *way))
            self.assertEqual(rollout, phased(4, back, workers=2, hands=2))

    def test_errors(self):
        for value in no_rollouts():
            self.fails(NoRollout, {"part": "rollout", "index": -1}, with_way, value, 1, 0)
            self.fails(NoRollout, {"part": "rollout", "index": -1}, with_way, value, "x", "x")
        for value in [*no_integers(), -1, 3, strange.GREAT, -strange.GREAT]:
            self.fails(NoNumber, {"part": "phase"}, with_way, phased(3), value, 0)
            self.fails(NoNumber, {"part": "phase"}, with_way, phased(3), value, "x")
        for phase in range(3):
            for value in [*no_integers(), -1, phase, phase + 1, 3, strange.GREAT, -strange.GREAT]:
                self.fails(NoNumber, {"part": "earlier"}, with_way, phased(3), phase, value)
        self.fails(NoNumber, {"part": "earlier"}, with_way, phased(1), 0, 0)
        self.fails(NoNumber, {"part": "phase"}, with_way, phased(1), 1, 0)


class TestWaysBack(Case):
    def test_by_hand(self):
        # The writer of the first phase makes rows wrong, which the last phase does not bear.
        phases = [Phase("one", writers=("t",)), Phase("two", fills=True, waits=("done",)), Phase("three", promises=("mild",))]
        fill = Fill(("set", "keep", "now", ()), again=True)
        rollout = Rollout([Writer("t", TAKE)], fill, phases)
        self.assertEqual(ways_back(rollout), [way for way in all_ways(3) if judge(with_way(rollout, *way))[0] == "holds"])
        self.assertIn((2, 1), ways_back(rollout))
        self.assertNotIn((2, 0), ways_back(rollout))
        self.assertEqual(ways_back(rollout=phased(3)), all_ways(3))
        self.assertEqual(ways_back(phased(3, [(2, 0)])), [(1, 0), (2, 1)])
        self.assertEqual(ways_back(phased(2, [(1, 0)]), most=1), [])
        self.assertEqual(ways_back(phased(1), most=1), [])

    def test_the_order(self):
        self.assertEqual(ways_back(phased(6, [(4, 2), (2, 0)])), [way for way in all_ways(6) if way not in ((4, 2), (2, 0))])
        self.assertEqual(all_ways(6), sorted(all_ways(6)))

    def test_all_answers(self):
        found = set()
        for seed in range(120):
            rollout = made(seed, small=seed % 2 == 0)
            ways = [way for way in all_ways(len(rollout)) if way not in rollout.back]
            try:
                words = [judge(with_way(rollout, *way))[0] for way in ways]
            except TooMany:
                self.fails(TooMany, {"most": 2000}, ways_back, rollout)
                continue
            told = ways_back(rollout)
            self.assertEqual((type(told), told), (list, [way for way, word in zip(ways, words) if word == "holds"]))
            self.assertTrue(all(type(way) is tuple for way in told))
            found.add((len(ways), len(told)))
        self.assertGreater(len(found), 4)

    def test_errors(self):
        for value in no_rollouts():
            self.fails(NoRollout, {"part": "rollout", "index": -1}, ways_back, value)
            self.fails(NoRollout, {"part": "rollout", "index": -1}, ways_back, value, most=0)
        for value in [*no_integers(), 0, -1, -strange.GREAT]:
            self.fails(NoNumber, {"part": "most"}, ways_back, phased(2), most=value)
            self.fails(NoNumber, {"part": "most"}, ways_back, phased(1), most=value)
        with self.assertRaises(TypeError):
            ways_back(phased(2), 2000)

    def test_too_many(self):
        for seed in SMALL:
            rollout = made(seed, small=True)
            ways = [way for way in all_ways(len(rollout)) if way not in rollout.back]
            if ways:
                most = max(len(levels(with_way(rollout, *way))) for way in ways)
                ways_back(rollout, most=most)
                self.fails(TooMany, {"most": most - 1}, ways_back, rollout, most=most - 1)
            else:
                self.assertEqual(ways_back(rollout, most=1), [])


class TestForms(Case):
    def test_signatures(self):
        for call, told in [(without, "(rollout, phase)"), (with_way, "(rollout, phase, earlier)"),
                           (spare_phases, "(rollout, *, most=2000)"), (ways_back, "(rollout, *, most=2000)")]:
            self.assertEqual(str(inspect.signature(call)), told)

    def test_new_lists(self):
        spare_phases(phased(3)).clear()
        ways_back(phased(3)).clear()
        self.assertEqual((spare_phases(phased(3)), ways_back(phased(3))), ([0, 1, 2], all_ways(3)))

    def test_out_and_back(self):
        for phase in range(3):
            rest = [way for way in all_ways(3) if phase not in way]
            self.assertEqual(without(with_way(phased(3), *rest[0]), phase), with_way(without(phased(3), phase), 1, 0))

    def test_time(self):
        ahead = time.monotonic()
        rollout = Rollout(wide(4).writers, wide(4).fill, wide(4).phases, workers=2)
        self.assertEqual(spare_phases(rollout), [0, 1, 2, 3])
        self.assertEqual(ways_back(rollout), all_ways(4))
        self.assertEqual(ways_back(one(BOTH, fill=NOW)), [])
        self.assertLess(time.monotonic() - ahead, 30)
