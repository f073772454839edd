"""Points 46 and 47: options, verdicts and least repairs."""

import inspect
import itertools
import random
import time

from fillbehind.errors import NoNumber, NoOption, NoOptions, NoRollout, TooMany
from fillbehind.judging import check_history, check_table, judge
from fillbehind.repairs import least_repairs, options, verdicts
from fillbehind.rollouts import Fill, Phase, Rollout, Writer
from tests import strange
from tests.cases import SMALL, Case, levels, no_integers, no_rollouts
from tests.rolls import BOTH, COPY, NOW, READ, example, one, rollout as made, wide
from tests.test_options import NEVER, OPEN, THERE, rollout as many_options

ALL = ("missing", "same old", "same new")
SAME, LOCK = ("fill", "same old"), ("fill", "lock")


def fresh():
    """The rollout of the document's last example."""
    return one(BOTH, fill=COPY, promises=("mild",), name="fresh")


def model(rollout):
    """What [46] tells of options, written a second time."""
    found = []
    for writer in rollout.writers:
        for at, step in enumerate(writer.steps):
            if step != READ and step[0] != "insert":
                words = ALL if READ in writer.steps[:at] else ("missing",)
                found += [("check", writer.name, at, word) for word in words if word not in step[-1]]
    fill = rollout.fill
    found += [("fill", word) for word in ALL if word not in fill.statement[-1]]
    found += [("fill", "lock")] * (not fill.lock) + [("fill", "only missing")] * (not fill.only_missing)
    found += [("fill", "save last")] * (fill.save == "first")
    for phase in rollout.phases[:-1]:
        found += [("wait", phase.name, word) for word in ("done", "drained") if word not in phase.waits]
    return found


def parts(some):
    """The parts of a list, in the order of [47]."""
    return [part for many in range(len(some) + 1) for part in itertools.combinations(some, many)]


def stricter(rollout, part):
    for option in part:
        rollout = rollout | option
    return rollout


def picked(rollout, chance):
    """Up to four options in any order."""
    found = options(rollout)
    return chance.sample(found, min(len(found), chance.choice([0, 1, 2, 3, 4, 4])))


class TestOptions(Case):
    def test_example(self):
        told = [("check", "fresh", 0, "missing"), ("fill", "missing"), ("fill", "same old"), ("fill", "same new"), ("fill", "lock"),
                ("fill", "only missing")]
        self.assertEqual(options(fresh()), told)
        self.assertEqual(options(rollout=fresh()), told)
        self.assertEqual(str(inspect.signature(options)), "(rollout)")

    def test_all_in_order(self):
        self.assertEqual(options(many_options()), OPEN)
        full = Rollout([Writer("w", ("insert", "now"))], Fill(("put", "now", ALL), lock=True, only_missing=True), [Phase("p")])
        self.assertEqual(options(full), [])
        steps = [READ, ("delete", ("same old",)), ("put", "now", ())]
        rollout = Rollout([Writer("w", *steps)], Fill(COPY, save="first"), [Phase("p"), Phase("q", waits=("done", "drained")), Phase("r")])
        self.assertEqual(options(rollout), [
            ("check", "w", 1, "missing"), ("check", "w", 1, "same new"), ("check", "w", 2, "missing"), ("check", "w", 2, "same old"),
            ("check", "w", 2, "same new"), ("fill", "missing"), ("fill", "same old"), ("fill", "same new"), ("fill", "lock"),
            ("fill", "only missing"), ("fill", "save last"), ("wait", "p", "done"), ("wait", "p", "drained")])

    def test_many_rollouts(self):
        for seed in range(200):
            rollout = made(seed)
            told = options(rollout)
            self.assertIs(type(told), list)
            self.assertEqual(told, model(rollout))
            for option in told:
                self.assertIs(option in rollout, False)
                more = rollout | option
                self.assertIs(option in more, True)
                self.assertEqual(options(more), [other for other in told if other != option])
            self.assertEqual(rollout, made(seed))

    def test_new_lists(self):
        options(fresh()).clear()
        self.assertEqual(len(options(fresh())), 6)

    def test_errors(self):
        for value in no_rollouts():
            self.fails(NoRollout, {"part": "rollout", "index": -1}, options, value)

    def test_what_is_no_option(self):
        for value in [*strange.values(), *NEVER, *THERE, *map(list, OPEN)]:
            self.fails(NoOption, {"option": value}, lambda: many_options() | value)


class TestVerdicts(Case):
    def test_example(self):
        told = verdicts(fresh(), [SAME, LOCK])
        self.assertEqual([(part, answer[0]) for part, answer in told],
                         [((), "breaks"), ((SAME,), "holds"), ((LOCK,), "holds"), ((SAME, LOCK), "holds")])
        self.assertEqual(least_repairs(fresh(), [SAME, LOCK]), [(SAME,), (LOCK,)])
        self.assertEqual(least_repairs(fresh(), [LOCK, SAME]), [(LOCK,), (SAME,)])

    def test_the_order_of_the_parts(self):
        rollout = one(BOTH, fill=COPY)
        for many in range(5):
            some = options(rollout)[::-1][:many]
            told = verdicts(rollout, some)
            self.assertEqual([part for part, answer in told], parts(some))
            self.assertEqual(len(told), 2 ** many)
        four = options(rollout)[:4]
        one_, two, three, four_ = four
        self.assertEqual([part for part, answer in verdicts(rollout, four)], [
            (), (one_,), (two,), (three,), (four_,), (one_, two), (one_, three), (one_, four_), (two, three), (two, four_),
            (three, four_), (one_, two, three), (one_, two, four_), (one_, three, four_), (two, three, four_), tuple(four)])

    def test_all_answers(self):
        words = set()
        for seed in SMALL[::2]:
            rollout = made(seed, small=True)
            some = picked(rollout, random.Random(seed))
            told = verdicts(rollout, some, most=4000)
            self.assertIs(type(told), list)
            self.assertEqual(verdicts(most=4000, some=tuple(some), rollout=rollout), told)
            self.assertEqual([part for part, answer in told], parts(some))
            for item in told:
                self.assertEqual((type(item), len(item), type(item[0])), (tuple, 2, tuple))
                part, (word, shown) = item
                words.add(word)
                more = stricter(rollout, part)
                self.assertEqual(judge(more, most=4000), (word, shown))
                self.assertIs(check_table(more, shown) if word == "holds" else check_history(more, shown), None)
            self.assertEqual(rollout, made(seed, small=True))
        self.assertEqual(words, {"holds", "breaks"})

    def test_no_options(self):
        told = judge(fresh())
        self.assertEqual(verdicts(fresh(), []), [((), told)])
        self.assertEqual(verdicts(fresh(), ()), [((), told)])

    def test_new_lists(self):
        some = [SAME, LOCK]
        first, second = verdicts(fresh(), some), verdicts(fresh(), some)
        for part, (word, shown) in first:
            (shown if word == "holds" else shown[1]).clear()
        first.clear()
        self.assertEqual(verdicts(fresh(), some), second)
        self.assertEqual(some, [SAME, LOCK])


class TestLeastRepairs(Case):
    def test_all_answers(self):
        lengths = set()
        for seed in SMALL:
            rollout = made(seed, small=True)
            for turn in range(2):
                some = picked(rollout, random.Random(seed + turn))
                holding = [part for part in parts(some) if judge(stricter(rollout, part), most=4000)[0] == "holds"]
                least = [part for part in holding if not any(set(other) < set(part) for other in holding)]
                told = least_repairs(rollout, some, most=4000)
                self.assertEqual((type(told), told), (list, least))
                lengths |= {len(part) for part in told}
        self.assertTrue({0, 1} <= lengths, lengths)

    def test_what_holds_needs_no_repair(self):
        rollout = one(BOTH, fill=NOW, promises=("mild",))
        self.assertEqual(least_repairs(rollout, [SAME, LOCK]), [()])
        self.assertEqual(least_repairs(rollout, []), [()])

    def test_what_cannot_be_repaired(self):
        self.assertEqual(least_repairs(fresh(), []), [])
        self.assertEqual(least_repairs(fresh(), [("check", "fresh", 0, "missing")]), [])
        self.assertEqual(least_repairs(some=[("fill", "missing")], rollout=example()), [])

    def test_a_pair_that_is_needed(self):
        # Two workers fill a row twice, unless it must be missing; and so they do where the writer clears it.
        rollout = one(("set", "input", "none", ()), fill=NOW, promises=("once",), workers=2)
        pair = (("check", "w", 0, "missing"), ("fill", "missing"))
        self.assertEqual(least_repairs(rollout, list(pair)), [pair])
        self.assertEqual(least_repairs(rollout, pair[::-1]), [pair[::-1]])
        self.assertEqual(least_repairs(rollout, [pair[0], LOCK, pair[1]]), [pair])
        self.assertEqual(least_repairs(rollout, [pair[0], LOCK]), [])
        # A part is left out for a smaller one of its own options alone, not for any that is smaller.
        some = [*pair, ("fill", "same new"), ("fill", "only missing")]
        self.assertEqual(least_repairs(rollout, some), [pair, (some[0], some[2], some[3])])

    def test_parts_with_more_options_that_do_not_hold(self):
        # A part that holds need not hold with more options: what is asked is whether a smaller part holds.
        for seed in SMALL:
            rollout = made(seed, small=True)
            some = options(rollout)[-3:]
            least = least_repairs(rollout, some, most=4000)
            for part in least:
                self.assertEqual([other for other in parts(part) if other in least], [part])


class TestErrors(Case):
    def wrong(self, index, some, rollout=None, **more):
        for call in (verdicts, least_repairs):
            self.fails(NoOptions, {"index": index}, call, rollout or fresh(), some, **more)

    def test_no_rollout(self):
        for value in no_rollouts():
            for call in (verdicts, least_repairs):
                self.fails(NoRollout, {"part": "rollout", "index": -1}, call, value, [])
                self.fails(NoRollout, {"part": "rollout", "index": -1}, call, value, 7, most=0)

    def test_no_list(self):
        found = options(fresh())
        for value in strange.values():
            if type(value) not in (list, tuple):
                self.wrong(-1, value)
                self.wrong(-1, value, most=0)
        self.wrong(-1, found[:5])
        self.wrong(-1, (7,) * 5)
        self.wrong(-1, tuple(found))
        self.wrong(-1, iter(found[:2]))
        self.wrong(-1, {option: 1 for option in found[:2]})

    def test_items(self):
        found = options(fresh())
        items = [*strange.values(), list(found[0]), ("fill", "save last"), ("fill", "falls"), ("wait", "one", "done"),
                 ("check", "fresh", False, "missing"), ("check", "fresh", 0, "same old"), ("check", "old", 0, "missing"), (found[0],)]
        for at in range(3):
            for value in items:
                self.wrong(at, [*found[:at], value, found[3]])
                self.wrong(at, (*found[:at], value, 7), most=0)
        self.wrong(1, [found[0], found[0]])
        self.wrong(3, [found[2], found[1], found[0], found[1]])
        self.wrong(2, [found[2], found[1], found[1], 7])
        self.wrong(1, [found[2], 7, found[2], found[2]])
        there = fresh() | SAME
        self.wrong(0, [SAME], there)
        self.wrong(1, [LOCK, SAME], there)

    def test_most(self):
        for call in (verdicts, least_repairs):
            for value in [*no_integers(), 0, -1, -strange.GREAT]:
                self.fails(NoNumber, {"part": "most"}, call, fresh(), [SAME], most=value)
            with self.assertRaises(TypeError):
                call(fresh(), [], 2000)
            self.assertEqual(str(inspect.signature(call)), "(rollout, some, *, most=2000)")

    def test_too_many(self):
        # A check of the fill makes more states here, and one of the writer fewer.
        found = 0
        for seed in SMALL[:30]:
            rollout = made(seed, small=True)
            some = options(rollout)[:3]
            sizes = [len(levels(stricter(rollout, part))) for part in parts(some)]
            most = max(sizes)
            self.assertEqual(len(verdicts(rollout, some, most=most)), len(sizes))
            least_repairs(rollout, some, most=most)
            found += min(sizes) < most
            for call in (verdicts, least_repairs):
                self.fails(TooMany, {"most": most - 1}, call, rollout, some, most=most - 1)
                self.fails(NoOptions, {"index": -1}, call, rollout, 7, most=1)
        self.assertGreater(found, 4)

    def test_too_many_of_a_part_that_is_not_needed(self):
        # It holds as it is, and yet a rollout with more options has too many states.
        found = 0
        for seed in SMALL:
            rollout = made(seed, small=True)
            many = len(levels(rollout))
            for option in options(rollout):
                if judge(rollout)[0] == "holds" and len(levels(rollout | option)) > many:
                    found += 1
                    self.fails(TooMany, {"most": many}, least_repairs, rollout, [option], most=many)
                    self.fails(TooMany, {"most": many}, verdicts, rollout, (option,), most=many)
        self.assertGreater(found, 0)


class TestTime(Case):
    def test_some_hundreds_of_states_and_more(self):
        ahead = time.monotonic()
        for many in (1, 4):
            rollout = wide(many)
            some = [("fill", "same old"), ("check", "b", 1, "same new"), ("fill", "lock"), ("check", "a", 0, "missing")]
            told = verdicts(rollout, some, most=5000)
            self.assertEqual([answer[0] for part, answer in told], ["holds"] * 16)
            self.assertGreater(min(len(answer[1]) for part, answer in told), 50)
            self.assertGreater(max(len(answer[1]) for part, answer in told), 300)
            self.assertEqual(least_repairs(rollout, some, most=5000), [()])
        self.assertLess(time.monotonic() - ahead, 60)
