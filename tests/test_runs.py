"""Points 14 to 16 and 20 to 23: runs on tables."""

from fillbehind.errors import NoDeed, NoDeeds, NoKey, NoNumber, NoRun, NotNow
from fillbehind.rollouts import Fill, Phase, Rollout, Writer
from fillbehind.runs import Run
from tests import cases, strange
from tests.rolls import BOTH, COPY, KEEP, NOW, READ, TAKE, example, one

NO_INTEGERS = strange.without(int)


class Case(cases.Case):
    def told(self, run):
        """All that a run tells."""
        rows = {key: run[key] for key in run.present()}
        marks = {key: (run.last(key), run.count(key)) for key in range(-2, 12)}
        workers = [run.worker(index) for index in range(run.rollout.workers)]
        return (run.phase, len(run), rows, marks, run.calls(), workers, run.broken())

    def does(self, run, *deeds):
        for deed in deeds:
            self.assertIsNone(run.do(deed))

    def not_now(self, run, word, *deeds):
        """These deeds cannot be done, and do nothing."""
        for deed in deeds:
            ahead = self.told(run)
            self.fails(NotNow, {"word": word}, run.do, deed)
            self.assertEqual(self.told(run), ahead, deed)


class TestTable(Case):
    def test_at_the_beginning(self):
        rows = {7: 3, -2: 0, strange.GREAT: -strange.GREAT}
        run = Run(example(), rows)
        self.assertEqual(rows, {7: 3, -2: 0, strange.GREAT: -strange.GREAT})
        self.assertEqual(run.present(), [-2, 7, strange.GREAT])
        self.assertEqual([run[-2], run[7], run[strange.GREAT]], [(0, None), (3, None), (-strange.GREAT, None)])
        self.assertEqual((len(run), run.phase, run.calls()), (3, 0, []))
        self.assertEqual(run.worker(0), (None, None, [], False))
        self.assertEqual((run.last(7), run.last(-2), run.last(8)), (3, 0, None))
        self.assertEqual((run.count(7), run.count(8)), (0, 0))
        self.assertIs(run.broken(), None)
        self.assertIs(type(run[7]), tuple)

    def test_an_empty_table(self):
        run = Run(rows={}, rollout=example())
        self.assertEqual((len(run), run.present(), run.broken()), (0, [], None))

    def test_order_of_the_keys(self):
        deeds = [("batch", 0), ("call", "old", 5, 9), ("set", 0), ("set", 0), ("save", 0), ("batch", 0)]
        ways = []
        for keys in ([1, 5, 8], [8, 5, 1], [5, 8, 1]):
            run = Run(example(), {key: key * 2 for key in keys})
            told = list(run.play(deeds))
            ways.append((told, self.told(run)))
        self.assertEqual(ways[0], ways[1])
        self.assertEqual(ways[0], ways[2])

    def test_later_changes_of_the_rows(self):
        rows = {7: 3}
        run = Run(example(), rows)
        rows[8] = 1
        rows[7] = 4
        self.assertEqual((run.present(), run[7]), ([7], (3, None)))
        run.do(("call", "old", 7, 5))
        self.assertEqual(rows, {7: 4, 8: 1})

    def test_lists_are_new(self):
        run = Run(one(READ, KEEP, batch=2), {7: 3, 8: 1})
        self.does(run, ("batch", 0), ("call", "w", 7, None))
        for tell in (run.present, run.calls, lambda: run.worker(0)[2]):
            ahead = list(tell())
            tell().append(1)
            tell().clear()
            self.assertEqual(tell(), ahead)
        self.assertEqual(run.worker(0), (None, 8, [(7, (3, None)), (8, (1, None))], False))

    def test_no_run(self):
        for value in strange.values():
            if type(value) is not Rollout:
                self.fails(NoRun, {"part": "rollout"}, Run, value, {})
                self.fails(NoRun, {"part": "rollout"}, Run, value, 7)
            if value != {1: 2, 3: 4} and value != {}:
                self.fails(NoRun, {"part": "rows"}, Run, example(), value)
        for value in NO_INTEGERS:
            self.fails(NoRun, {"part": "rows"}, Run, example(), {7: value})
            self.fails(NoRun, {"part": "rows"}, Run, example(), {1: 2, 7: value, 8: 3})
            if type(value) in (bool, str, bytes, type(None), frozenset):
                self.fails(NoRun, {"part": "rows"}, Run, example(), {5: 2, value: 3})
        self.fails(NoRun, {"part": "rows"}, Run, example(), [(7, 3)])
        self.fails(NoRun, {"part": "rows"}, Run, example(), {7: (3, None)})

    def test_keys(self):
        run = Run(example(), {1: 3, 0: 4, -5: 2})
        for key in (1, 0, -5):
            self.assertIs(key in run, True)
        for value in strange.values():
            if type(value) is int and value in (0, 1):
                continue
            self.assertIs(value in run, False)
            self.fails(NoKey, {"key": value}, run.__getitem__, value)
        with self.assertRaises(NoKey) as caught:
            run[True]
        self.assertIs(caught.exception.key, True)

    def test_rows_that_are_gone(self):
        run = Run(one(("delete", ())), {7: 3})
        self.does(run, ("call", "w", 7, None))
        self.assertEqual((7 in run, len(run), run.present()), (False, 0, []))
        self.fails(NoKey, {"key": 7}, run.__getitem__, 7)
        self.assertEqual((run.last(7), run.count(7), run.broken()), (None, 0, None))

    def test_is_not_gone_through(self):
        run = Run(example(), {0: 3, 1: 4})
        with self.assertRaises(TypeError):
            for _ in run:
                pass
        with self.assertRaises(TypeError):
            list(run)
        with self.assertRaises(TypeError):
            iter(run)

    def test_numbers_that_are_none(self):
        run = Run(example(), {1: 3})
        for value in NO_INTEGERS:
            self.fails(NoNumber, {"part": "index"}, run.worker, value)
            self.fails(NoNumber, {"part": "key"}, run.last, value)
            self.fails(NoNumber, {"part": "key"}, run.count, value)
        for value in (1, -1, 2, strange.GREAT):
            self.fails(NoNumber, {"part": "index"}, run.worker, index=value)
        self.assertEqual((run.last(key=1), run.count(key=1), run.last(strange.GREAT)), (3, 0, None))
        run = Run(one(KEEP, workers=2), {})
        self.assertEqual(run.worker(index=1), (None, None, [], False))
        self.fails(NoNumber, {"part": "index"}, run.worker, 2)

    def test_equal_to_itself_alone(self):
        run = Run(example(), {1: 2, 3: 4})
        for value in strange.values():
            self.assertIs(run == value, False)


class TestCalls(Case):
    def test_one_step(self):
        run = Run(example(), {7: 3})
        self.does(run, ("call", "old", 7, 5))
        self.assertEqual((run[7], run.last(7), run.calls()), ((5, None), 5, []))
        self.does(run, ("call", "old", 8, 5))
        self.assertEqual((run.present(), run.last(8), run.count(8)), ([7], None, 0))

    def test_statements_and_last(self):
        for steps, value, row, last in [
            ((TAKE,), 5, (5, None), 5), ((BOTH,), 5, (5, 5), 5), ((NOW,), None, (3, 3), 3), ((KEEP,), None, (3, None), 3),
            ((("set", "input", "now", ("missing",)),), 5, (5, 5), 5), ((("delete", ()),), None, None, None),
            ((("insert", "now"),), 5, (3, None), 3), ((("insert", "none"),), 5, (3, None), 3),
        ]:
            run = Run(one(*steps), {7: 3})
            self.does(run, ("call", "w", 7, value))
            self.assertEqual((run[7] if 7 in run else None, run.last(7), run.count(7)), (row, last, 0), steps)

    def test_inserts(self):
        for word, source in (("none", None), ("now", 5)):
            run = Run(one(("insert", word)), {7: 3})
            self.does(run, ("call", "w", 6, 5))
            self.assertEqual((run[6], run.last(6), run.present(), len(run)), ((5, source), 5, [6, 7], 2))

    def test_what_was_read(self):
        other = Writer("other", ("set", "input", "none", ()))
        for step, row, last in [
            (("set", "read", "keep", ()), (3, None), 3), (("set", "keep", "read", ()), (9, 3), 9),
            (("set", "read", "now", ()), (3, 3), 3), (("put", "now", ()), (3, 3), 3), (("put", "none", ()), (3, None), 3),
            (("set", "keep", "now", ("same old",)), (9, None), 9), (("delete", ("same old",)), (9, None), 9),
            (("delete", ("same new",)), None, None), (("set", "read", "keep", ("same old",)), (9, None), 9),
        ]:
            run = Run(one(READ, step, writers=[other]), {7: 3})
            self.does(run, ("call", "w", 7, None))
            self.assertEqual(run.calls(), [(0, "w", 7, 1, None, (3, None))])
            self.does(run, ("call", "other", 7, 9), ("go", 0))
            self.assertEqual((run[7] if 7 in run else None, run.last(7), run.calls()), (row, last, []), step)

    def test_a_put_on_a_row_that_is_gone(self):
        gone = Writer("gone", ("delete", ()))
        for step, row, last in [(("put", "now", ()), (3, 3), 3), (("put", "copy", ()), (3, None), 3),
                                (("put", "now", ("missing",)), None, None), (("set", "read", "now", ()), None, None)]:
            run = Run(one(READ, step, writers=[gone]), {7: 3})
            self.does(run, ("call", "w", 7, None), ("call", "gone", 7, None), ("go", 0))
            self.assertEqual((run[7] if 7 in run else None, run.last(7), run.count(7)), (row, last, 0), step)

    def test_the_row_that_was_seen_last(self):
        other = Writer("other", BOTH)
        run = Run(one(READ, READ, ("put", "copy", ()), writers=[other]), {7: 3})
        self.does(run, ("call", "w", 7, None), ("call", "other", 7, 4), ("go", 0))
        self.assertEqual(run.calls(), [(0, "w", 7, 2, None, (4, 4))])
        self.does(run, ("call", "other", 7, 6), ("go", 0))
        self.assertEqual((run[7], run.last(7)), ((4, 4), 4))

    def test_steps_behind_a_statement(self):
        run = Run(one(TAKE, READ, ("set", "keep", "read", ())), {7: 3})
        self.does(run, ("call", "w", 7, 5))
        self.assertEqual((run[7], run.calls()), ((5, None), [(0, "w", 7, 1, 5, None)]))
        self.does(run, ("go", 0))
        self.assertEqual(run.calls(), [(0, "w", 7, 2, 5, (5, None))])
        self.does(run, ("go", 0))
        self.assertEqual((run[7], run.calls()), ((5, 5), []))
        self.not_now(run, "call", ("go", 0))

    def test_a_statement_without_effect_goes_on(self):
        run = Run(one(TAKE, ("insert", "now")), {})
        self.does(run, ("call", "w", 7, 5))
        self.assertEqual((run.present(), run.calls()), ([], [(0, "w", 7, 1, 5, None)]))
        self.does(run, ("go", 0))
        self.assertEqual((run[7], run.last(7)), ((5, 5), 5))

    def test_a_read_without_a_row_ends_the_call(self):
        gone = Writer("gone", ("delete", ()))
        run = Run(one(READ, READ, ("put", "now", ()), writers=[gone]), {7: 3})
        self.does(run, ("call", "w", 8, None))
        self.assertEqual(run.calls(), [])
        self.does(run, ("call", "w", 7, None), ("call", "gone", 7, None), ("go", 1))
        self.assertEqual((run.calls(), run.present()), ([], []))
        self.not_now(run, "call", ("go", 1), ("go", 0), ("go", 5))

    def test_numbers(self):
        run = Run(one(READ, ("put", "now", ()), hands=2, writers=[Writer("x", KEEP)]), {7: 3, 8: 4})
        self.does(run, ("call", "x", 7, None), ("call", "w", 7, None), ("call", "w", 9, None), ("call", "w", 7, None),
                  ("call", "w", 8, None))
        self.assertEqual(run.calls(), [(1, "w", 7, 1, None, (3, None)), (3, "w", 7, 1, None, (3, None)),
                                       (4, "w", 8, 1, None, (4, None))])
        self.not_now(run, "call", ("go", 0), ("go", 2), ("go", 5), ("go", strange.GREAT))
        self.does(run, ("go", 3))
        self.assertEqual([call[0] for call in run.calls()], [1, 4])
        self.not_now(run, "call", ("go", 3))

    def test_calls_keep_their_order(self):
        run = Run(one(READ, READ, ("put", "now", ()), hands=2), {7: 3})
        self.does(run, ("call", "w", 7, None), ("call", "w", 7, None), ("go", 0))
        self.assertEqual([call[:4] for call in run.calls()], [(0, "w", 7, 2), (1, "w", 7, 1)])

    def test_a_refused_call_has_no_number(self):
        run = Run(one(READ, ("put", "now", ()), hands=1), {7: 3, 8: 4})
        self.does(run, ("call", "w", 7, None))
        self.not_now(run, "hands", ("call", "w", 7, None))
        self.does(run, ("call", "w", 8, None))
        self.assertEqual([call[0] for call in run.calls()], [0, 1])

    def test_hands(self):
        single = Writer("x", KEEP)
        for hands in (0, 1, 2):
            run = Run(one(READ, ("put", "now", ()), hands=hands, writers=[single]), {7: 3, 8: 4})
            self.does(run, *[("call", "w", 7, None)] * hands)
            self.not_now(run, "hands", ("call", "w", 7, None))
            self.does(run, ("call", "x", 7, None))
            if hands:
                self.does(run, ("call", "w", 8, None), ("go", 0), ("call", "w", 7, None))
            else:
                self.not_now(run, "hands", ("call", "w", 9, None), ("call", "w", 8, None))

    def test_phases_of_calls(self):
        writers = [Writer("a", READ, ("put", "now", ())), Writer("b", KEEP)]
        run = Run(Rollout(writers, Fill(COPY), [Phase("one", writers=("a",)), Phase("two", writers=("b",))]), {7: 3})
        self.not_now(run, "phase", ("call", "b", 7, None), ("call", "b", 8, None))
        self.does(run, ("call", "a", 7, None), ("next",))
        self.assertEqual(run.phase, 1)
        self.not_now(run, "phase", ("call", "a", 7, None), ("call", "a", 8, None))
        self.does(run, ("go", 0), ("call", "b", 7, None))
        self.assertEqual(run[7], (3, 3))

    def test_first_word_for_a_call(self):
        writers = [Writer("a", TAKE, KEEP), Writer("b", KEEP)]
        phases = [Phase("one", writers=("a",), fills=True), Phase("two", fills=True)]
        run = Run(Rollout(writers, Fill(COPY, lock=True), phases), {7: 3})
        self.does(run, ("call", "a", 7, 5), ("batch", 0))
        self.not_now(run, "phase", ("call", "b", 7, None))
        self.not_now(run, "hands", ("call", "a", 7, 5))
        self.not_now(run, "locked", ("go", 0))
        self.does(run, ("next",))
        self.not_now(run, "phase", ("call", "a", 7, 5))
        self.not_now(run, "call", ("go", 1))


class TestWorkers(Case):
    def test_batches(self):
        run = Run(one(KEEP, batch=2), {7: 3, 1: 5, 9: 6})
        self.does(run, ("batch", 0))
        self.assertEqual(run.worker(0), (None, 7, [(1, (5, None)), (7, (3, None))], False))
        self.not_now(run, "worker", ("batch", 0), ("save", 0), ("fall", 0), ("again", 0))
        self.does(run, ("set", 0))
        self.assertEqual((run.worker(0), run[1], run[7]), ((None, 7, [(7, (3, None))], False), (5, 5), (3, None)))
        self.not_now(run, "worker", ("batch", 0), ("save", 0))
        self.does(run, ("set", 0))
        self.assertEqual(run.worker(0), (None, 7, [], False))
        self.not_now(run, "worker", ("set", 0), ("batch", 0))
        self.does(run, ("save", 0))
        self.assertEqual(run.worker(0), (7, None, [], False))
        self.not_now(run, "worker", ("save", 0), ("set", 0))
        self.does(run, ("batch", 0))
        self.assertEqual(run.worker(0), (7, 9, [(9, (6, None))], False))
        self.does(run, ("set", 0), ("save", 0), ("batch", 0))
        self.assertEqual(run.worker(0), (9, None, [], True))
        self.not_now(run, "worker", ("batch", 0), ("set", 0), ("save", 0), ("fall", 0), ("again", 0))

    def test_save_first(self):
        run = Run(one(KEEP, batch=2, save="first"), {7: 3, 1: 5, 9: 6})
        self.does(run, ("batch", 0))
        self.not_now(run, "worker", ("set", 0), ("batch", 0))
        self.assertEqual(run.worker(0), (None, 7, [(1, (5, None)), (7, (3, None))], False))
        self.does(run, ("save", 0))
        self.assertEqual(run.worker(0), (7, 7, [(1, (5, None)), (7, (3, None))], False))
        self.not_now(run, "worker", ("save", 0), ("batch", 0))
        self.does(run, ("set", 0))
        self.assertEqual(run.worker(0), (7, 7, [(7, (3, None))], False))
        self.not_now(run, "worker", ("save", 0), ("batch", 0))
        self.does(run, ("set", 0))
        self.assertEqual(run.worker(0), (7, None, [], False))
        self.not_now(run, "worker", ("set", 0), ("save", 0))
        self.does(run, ("batch", 0))
        self.assertEqual(run.worker(0), (7, 9, [(9, (6, None))], False))

    def test_the_row_that_was_read_is_used(self):
        run = Run(one(TAKE), {7: 3})
        self.does(run, ("batch", 0), ("call", "w", 7, 5), ("set", 0))
        self.assertEqual((run[7], run.count(7), run.last(7)), ((5, 3), 1, 5))

    def test_a_row_that_is_gone_or_another(self):
        writers = [Writer("new", ("insert", "none"))]
        run = Run(one(("delete", ()), writers=writers, batch=2), {7: 3, 8: 4})
        self.does(run, ("batch", 0), ("call", "w", 7, None), ("set", 0))
        self.assertEqual((7 in run, run.count(7)), (False, 0))
        self.does(run, ("call", "w", 8, None), ("call", "new", 8, 6), ("set", 0))
        self.assertEqual((run[8], run.count(8), run.last(8)), ((6, 4), 1, 6))

    def test_a_put_of_a_worker_makes_a_row(self):
        run = Run(one(("delete", ()), fill=("put", "now", ()), promises=("kept", "once"), again=True), {7: 3})
        self.does(run, ("batch", 0), ("call", "w", 7, None), ("set", 0))
        self.assertEqual((run[7], run.count(7), run.last(7)), ((3, 3), 1, None))
        self.assertEqual(run.broken(), (7, ("kept",)))
        self.does(run, ("save", 0), ("batch", 0), ("again", 0), ("batch", 0), ("set", 0))
        self.assertEqual((run.count(7), run.last(7), run.broken()), (2, None, (7, ("kept", "once"))))

    def test_count(self):
        writers = [Writer("new", ("insert", "none")), Writer("set", BOTH)]
        run = Run(one(("delete", ()), writers=writers, fill=NOW, again=True), {7: 3})
        turn = [("batch", 0), ("set", 0), ("save", 0), ("batch", 0), ("again", 0)]
        for many in (1, 2, 3):
            self.does(run, *turn)
            self.assertEqual(run.count(7), many)
        self.does(run, ("call", "set", 7, 9))
        self.assertEqual(run.count(7), 3)
        self.does(run, ("call", "w", 7, None))
        self.assertEqual(run.count(7), 0)
        self.does(run, ("call", "new", 7, 4))
        self.assertEqual(run.count(7), 0)
        self.does(run, *turn)
        self.assertEqual(run.count(7), 1)

    def test_a_check_that_fails_does_not_count(self):
        run = Run(one(TAKE, fill=("set", "keep", "read", ("same old",))), {7: 3})
        self.does(run, ("batch", 0), ("call", "w", 7, 5), ("set", 0))
        self.assertEqual((run[7], run.count(7)), ((5, None), 0))

    def test_only_missing(self):
        run = Run(one(NOW, batch=2, only_missing=True), {1: 5, 3: 6, 7: 3, 9: 4})
        self.does(run, ("call", "w", 1, None), ("call", "w", 7, None), ("batch", 0))
        self.assertEqual(run.worker(0)[1:3], (9, [(3, (6, None)), (9, (4, None))]))
        self.does(run, ("set", 0), ("set", 0), ("save", 0), ("batch", 0))
        self.assertEqual(run.worker(0), (9, None, [], True))
        run = Run(one(NOW, batch=2), {1: 5, 3: 6, 7: 3})
        self.does(run, ("call", "w", 1, None), ("batch", 0))
        self.assertEqual(run.worker(0)[2], [(1, (5, 5)), (3, (6, None))])

    def test_falls(self):
        for save, cursor in (("last", None), ("first", 7)):
            run = Run(one(KEEP, batch=2, falls=True, save=save), {1: 5, 7: 3, 9: 4})
            self.not_now(run, "worker", ("fall", 0))
            self.does(run, ("batch", 0), ("fall", 0))
            self.assertEqual(run.worker(0), (None, None, [], False))
            self.does(run, ("batch", 0), *([("save", 0)] if save == "first" else []), ("set", 0), ("fall", 0))
            self.assertEqual(run.worker(0), (cursor, None, [], False))
            self.assertEqual((run[1], run.count(1)), ((5, 5), 1))
            self.does(run, ("batch", 0))
            self.assertEqual(run.worker(0)[1:3], (9, [(9, (4, None))]) if save == "first" else
                             (7, [(1, (5, 5)), (7, (3, None))]))
        run = Run(one(KEEP, falls=True), {1: 5})
        self.does(run, ("batch", 0), ("set", 0), ("fall", 0))
        self.assertEqual(run.worker(0), (None, None, [], False))
        self.does(run, ("batch", 0), ("set", 0), ("save", 0))
        self.not_now(run, "worker", ("fall", 0))
        self.does(run, ("batch", 0))
        self.not_now(run, "worker", ("fall", 0))

    def test_again(self):
        run = Run(one(("insert", "none"), again=True), {5: 1})
        self.not_now(run, "worker", ("again", 0))
        self.does(run, ("batch", 0))
        self.not_now(run, "worker", ("again", 0))
        self.does(run, ("set", 0), ("save", 0))
        self.not_now(run, "worker", ("again", 0))
        self.does(run, ("batch", 0))
        self.assertEqual(run.worker(0), (5, None, [], True))
        self.does(run, ("call", "w", 2, 8), ("again", 0))
        self.assertEqual(run.worker(0), (None, None, [], False))
        self.does(run, ("batch", 0))
        self.assertEqual(run.worker(0), (None, 2, [(2, (8, None))], False))

    def test_rows_ahead_of_the_cursor_alone(self):
        run = Run(one(("insert", "none")), {5: 1})
        self.does(run, ("batch", 0), ("set", 0), ("save", 0), ("call", "w", 4, 2), ("call", "w", 6, 3), ("batch", 0))
        self.assertEqual(run.worker(0), (5, 6, [(6, (3, None))], False))

    def test_two_workers(self):
        run = Run(one(KEEP, workers=2, fill=NOW, batch=2), {5: 1, 6: 2})
        self.does(run, ("batch", 1), ("batch", 0), ("set", 1))
        self.assertEqual(run.worker(0), (None, 6, [(5, (1, None)), (6, (2, None))], False))
        self.assertEqual(run.worker(1), (None, 6, [(6, (2, None))], False))
        self.does(run, ("set", 0))
        self.assertEqual((run.count(5), run.count(6)), (2, 0))

    def test_phases_of_workers(self):
        phases = [Phase("one"), Phase("two", fills=True), Phase("three")]
        run = Run(Rollout([Writer("w", KEEP)], Fill(COPY, falls=True, again=True, lock=True), phases), {5: 1})
        deeds = [(word, 0) for word in ("batch", "set", "save", "fall", "again")]
        self.not_now(run, "phase", *deeds)
        self.does(run, ("next",), ("batch", 0), ("next",))
        self.not_now(run, "phase", *deeds)
        self.assertEqual(run.worker(0), (None, 5, [(5, (1, None))], False))


class TestLocks(Case):
    def test_statements_of_calls(self):
        writers = [Writer("new", ("insert", "now")), Writer("reads", READ, ("put", "now", ()))]
        run = Run(one(KEEP, writers=writers, lock=True, falls=True, batch=2, hands=2), {5: 1, 6: 2, 7: 3})
        self.does(run, ("call", "reads", 5, None), ("call", "reads", 7, None), ("batch", 0))
        self.not_now(run, "locked", ("call", "w", 5, None), ("call", "new", 5, 8), ("call", "w", 6, None), ("go", 0))
        self.does(run, ("call", "w", 7, None), ("go", 1), ("call", "reads", 5, None), ("call", "w", 4, None))
        self.does(run, ("set", 0), ("go", 0), ("call", "w", 5, None))
        self.not_now(run, "locked", ("call", "w", 6, None))
        self.does(run, ("fall", 0), ("call", "w", 6, None))

    def test_a_row_is_free_behind_its_statement(self):
        for save in ("last", "first"):
            run = Run(one(KEEP, lock=True, save=save), {5: 1})
            self.does(run, ("batch", 0), *([("save", 0)] if save == "first" else []))
            self.not_now(run, "locked", ("call", "w", 5, None))
            self.does(run, ("set", 0), ("call", "w", 5, None))

    def test_without_lock(self):
        run = Run(one(KEEP, workers=2), {5: 1})
        self.does(run, ("batch", 0), ("call", "w", 5, None), ("batch", 1))

    def test_other_workers(self):
        run = Run(one(KEEP, workers=2, lock=True, batch=2), {5: 1, 6: 2, 7: 3})
        self.does(run, ("batch", 1))
        self.not_now(run, "locked", ("batch", 0))
        self.does(run, ("set", 1))
        self.not_now(run, "locked", ("batch", 0))
        self.not_now(run, "worker", ("batch", 1))
        self.does(run, ("set", 1), ("batch", 0), ("save", 1))
        self.assertEqual(run.worker(0), (None, 6, [(5, (1, 1)), (6, (2, 2))], False))
        self.does(run, ("batch", 1))
        self.assertEqual(run.worker(1), (6, 7, [(7, (3, None))], False))

    def test_a_batch_of_other_rows(self):
        run = Run(one(KEEP, workers=2, lock=True, only_missing=True, fill=("set", "keep", "none", ())), {5: 1, 6: 2})
        self.does(run, ("batch", 0))
        self.not_now(run, "locked", ("batch", 1))
        self.does(run, ("set", 0), ("save", 0), ("batch", 0), ("batch", 1))
        self.assertEqual([run.worker(0)[2], run.worker(1)[2]], [[(6, (2, None))], [(5, (1, None))]])

    def test_locks_stay_in_phases_that_do_not_fill(self):
        phases = [Phase("one", fills=True), Phase("two", writers=("w",))]
        run = Run(Rollout([Writer("w", KEEP)], Fill(COPY, lock=True), phases), {5: 1})
        self.does(run, ("batch", 0), ("next",))
        self.not_now(run, "locked", ("call", "w", 5, None))


class TestPhases(Case):
    def rollout(self, waits, back=(), **more):
        writers = [Writer("a", READ, KEEP), Writer("b", READ, KEEP)]
        phases = [Phase("one", writers=("a", "b"), fills=True, waits=waits), Phase("two", writers=("b",), fills=True),
                  Phase("three", waits=("done", "drained"))]
        return Rollout(writers, Fill(COPY), phases, back=back, **more)

    def test_next(self):
        run = Run(self.rollout(()), {5: 1})
        self.does(run, ("batch", 0), ("call", "a", 5, None), ("next",))
        self.assertEqual(run.phase, 1)
        self.does(run, ("next",))
        self.assertEqual(run.phase, 2)
        self.not_now(run, "phase", ("next",))

    def test_done(self):
        run = Run(self.rollout(("done",), workers=2), {5: 1})
        self.not_now(run, "done", ("next",))
        turn = [("batch", 0), ("set", 0), ("save", 0), ("batch", 0)]
        self.does(run, *turn)
        self.not_now(run, "done", ("next",))
        self.does(run, *[(word, 1) for word, _ in turn[:3]])
        self.not_now(run, "done", ("next",))
        self.does(run, ("call", "a", 5, None), ("batch", 1), ("next",))

    def test_drained(self):
        run = Run(self.rollout(("drained",)), {5: 1, 6: 2})
        self.does(run, ("call", "b", 5, None), ("call", "a", 6, None))
        self.not_now(run, "drained", ("next",))
        self.does(run, ("go", 1), ("next",))
        self.assertEqual((run.phase, len(run.calls())), (1, 1))

    def test_done_comes_before_drained(self):
        run = Run(self.rollout(("done", "drained")), {5: 1})
        self.does(run, ("call", "a", 5, None))
        self.not_now(run, "done", ("next",))
        self.does(run, ("batch", 0), ("set", 0), ("save", 0), ("batch", 0))
        self.not_now(run, "drained", ("next",))
        self.does(run, ("go", 0), ("next",))

    def test_back(self):
        run = Run(self.rollout((), back=[(2, 0), (1, 0)]), {5: 1})
        self.not_now(run, "back", ("back", 0), ("back", 1), ("back", 2))
        self.does(run, ("next",), ("back", 0))
        self.assertEqual(run.phase, 0)
        self.does(run, ("next",), ("next",))
        self.not_now(run, "back", ("back", 1), ("back", 2))
        self.does(run, ("back", 0), ("call", "a", 5, None))


class TestDeeds(Case):
    def test_what_is_no_deed(self):
        run = Run(one(TAKE, writers=[Writer("plain", KEEP)], name="take"), {7: 3})
        ahead = self.told(run)
        wrong = [
            ("call", "take", 7), ("call", "take", 7, None), ("call", "take", 7, True), ("call", "take", 7, "5"),
            ("call", "plain", 7, 5), ("call", "plain", 7), ("call", "plain", 7, False), ("call", "none", 7, None),
            ("call", "", 7, 5), ("call", 0, 7, 5), ("call", "take", None, 5), ("call", "take", True, 5),
            ("call", "take", "7", 5), ("call", "take", (7,), 5), ("call", "take", 7, 5, 6), ("call", ["take"], 7, 5),
            ("go",), ("go", -1), ("go", None), ("go", True), ("go", "0"), ("go", 0, 0),
            ("next", 0), ("next", None), "next", ["next"], ("Next",), (("next",),), (b"next",),
            ("back",), ("back", 1), ("back", -1), ("back", None), ("back", False), ("back", 0, 0),
            ("read", 0), ("pass", 0), ("end", 0), ("", 0), (), (None,), (0,), (True,), (None, 0), ("fall", 0, 0),
            {"next": 1}, {"next"}, [], ["batch", 0],
        ]
        for word in ("batch", "set", "save", "fall", "again"):
            wrong += [(word,), (word, 1), (word, -1), (word, None), (word, False), (word, "0"), (word, 0, 0), [word, 0]]
        values = strange.values()
        wrong += values
        for value in values:
            wrong += [(value,), ("call", value, 7, 5), ("call", "take", 7, 5, value), ("go", 0, value), ("next", value)]
            if type(value) is not int:
                wrong += [("call", "take", value, 5), ("call", "take", 7, value), ("go", value), ("back", value),
                          ("batch", value), ("set", value), ("again", value)]
            if value is not None:
                wrong.append(("call", "plain", 7, value))
        for deed in wrong:
            self.fails(NoDeed, {"deed": deed}, run.do, deed)
        self.assertEqual(self.told(run), ahead)
        self.fails(NoDeed, {"deed": wrong[0]}, run.do, deed=wrong[0])

    def test_no_deed_also_where_it_could_not_be_done(self):
        rollout = Rollout([Writer("a", READ, KEEP)], Fill(COPY), [Phase("one"), Phase("two")], hands=0)
        run = Run(rollout, {})
        for deed in [("call", "a", 7, 5), ("call", "b", 7, None), ("call", "a", "7", None), ("batch", 1), ("set", 2),
                     ("back", 2), ("go", -1)]:
            self.fails(NoDeed, {"deed": deed}, run.do, deed)
        self.not_now(run, "phase", ("call", "a", 7, None), ("batch", 0), ("again", 0))
        self.not_now(run, "back", ("back", 0), ("back", 1))
        self.not_now(run, "call", ("go", 0), ("go", strange.GREAT))

    def test_great_numbers(self):
        run = Run(example(BOTH), {7: 3})
        great = strange.GREAT
        self.does(run, ("call", "old", great, great), ("call", "old", 7, -great))
        self.assertEqual((run[7], run.last(7)), ((-great, -great), -great))
        run = Run(one(("insert", "now")), {})
        self.does(run, ("call", "w", great, -great), ("batch", 0), ("set", 0))
        self.assertEqual((run[great], run.present()), ((-great, -great), [great]))


class TestPromises(Case):
    def run_with(self, promises, *deeds, fill=COPY, **more):
        writers = [Writer("take", TAKE), Writer("both", BOTH), Writer("new", ("insert", "none"))]
        run = Run(one(("delete", ()), fill=fill, promises=promises, writers=writers, **more), {5: 1, 7: 3})
        self.does(run, *deeds)
        return run.broken()

    def test_right(self):
        both = [("call", "both", 5, 4), ("call", "both", 7, 4)]
        self.assertEqual(self.run_with(("right",)), (5, ("right",)))
        self.assertEqual(self.run_with(("right",), both[0]), (7, ("right",)))
        self.assertIs(self.run_with(("right",), *both), None)
        self.assertEqual(self.run_with(("right",), *both, ("call", "take", 7, 9)), (7, ("right",)))
        self.assertIs(self.run_with(("right",), ("call", "w", 5, None), ("call", "w", 7, None)), None)

    def test_mild(self):
        both = [("call", "both", 5, 4), ("call", "both", 7, 4)]
        self.assertIs(self.run_with(("mild",)), None)
        self.assertIs(self.run_with(("mild",), *both), None)
        self.assertEqual(self.run_with(("mild",), *both, ("call", "take", 7, 9)), (7, ("mild",)))
        self.assertIs(self.run_with(("mild",), *both, ("call", "take", 7, 9), ("call", "w", 7, None)), None)

    def test_kept(self):
        reading = ("set", "read", "now", ())
        self.assertIs(self.run_with(("kept",)), None)
        self.assertIs(self.run_with(("kept",), ("call", "take", 5, 9), ("call", "w", 7, None)), None)
        deeds = [("batch", 0), ("call", "take", 5, 9), ("set", 0)]
        self.assertEqual(self.run_with(("kept",), *deeds, fill=reading), (5, ("kept",)))
        self.assertIs(self.run_with(("kept",), *deeds, fill=COPY), None)
        self.assertIs(self.run_with(("kept",), *deeds, ("call", "w", 5, None), fill=reading), None)
        self.assertIs(self.run_with(("kept",), *deeds, ("call", "take", 5, 2), fill=reading), None)

    def test_once(self):
        turn = [("batch", 0), ("set", 0), ("fall", 0)]
        self.assertIs(self.run_with(("once",), *turn, falls=True), None)
        self.assertEqual(self.run_with(("once",), *turn, *turn, falls=True), (5, ("once",)))
        self.assertEqual(self.run_with(("once",), *turn, *turn, *turn, falls=True), (5, ("once",)))
        self.assertIs(self.run_with(("once",), *turn, *turn, ("call", "w", 5, None), falls=True), None)

    def test_all_words_and_the_least_key(self):
        turn = [("batch", 0), ("call", "take", 5, 9), ("set", 0), ("fall", 0)]
        fill = ("set", "read", "now", ())
        words = ("right", "mild", "kept", "once")
        deeds = [*turn, ("batch", 0), ("call", "both", 5, 8), ("set", 0), ("call", "take", 7, 2)]
        self.assertEqual(self.run_with(words, *deeds, fill=fill, falls=True), (5, ("kept", "once")))
        self.assertEqual(self.run_with(words, ("call", "both", 7, 2), ("call", "take", 7, 3)), (5, ("right",)))
        deeds = [("call", "both", 5, 2), ("call", "both", 7, 2), ("call", "take", 7, 3)]
        self.assertEqual(self.run_with(words, *deeds), (7, ("right", "mild")))

    def test_the_least_key_in_any_order_of_the_rows(self):
        for keys in ([9, 5, 7], [5, 7, 9], [7, 9, 5]):
            run = Run(one(("insert", "none"), promises=("right",)), {key: 0 for key in keys})
            self.assertEqual(run.broken(), (5, ("right",)))
            self.does(run, ("call", "w", -3, 4))
            self.assertEqual(run.broken(), (-3, ("right",)))

    def test_the_phase_that_is_now(self):
        phases = [Phase("one"), Phase("two", promises=("right",)), Phase("three", promises=("mild",))]
        run = Run(Rollout([Writer("w", KEEP)], Fill(COPY), phases, back=[(1, 0)]), {7: 3})
        found = [run.broken()]
        for deed in [("next",), ("back", 0), ("next",), ("next",)]:
            run.do(deed)
            found.append(run.broken())
        self.assertEqual(found, [None, (7, ("right",)), None, (7, ("right",)), None])


class TestPlay(Case):
    def test_example(self):
        run = Run(example(), {7: 3})
        deeds = [("batch", 0), ("call", "old", 7, 5), ("set", 0)]
        self.assertEqual(list(run.play(deeds)), [None, None, (7, ("mild",))])
        self.assertEqual(run[7], (5, 3))
        self.assertEqual(list(Run(example(), {7: 3}).play(deeds=tuple(deeds))), [None, None, (7, ("mild",))])
        self.assertEqual(deeds, [("batch", 0), ("call", "old", 7, 5), ("set", 0)])

    def test_a_deed_is_done_when_the_next_item_is_asked_for(self):
        run = Run(example(), {7: 3})
        played = run.play([("call", "old", 7, 5), ("call", "old", 7, 6), ("next",)])
        self.assertEqual(run[7], (3, None))
        self.assertIs(next(played), None)
        self.assertEqual(run[7], (5, None))
        run.do(("call", "old", 7, 9))
        self.assertIs(next(played), None)
        self.assertEqual(run[7], (6, None))
        with self.assertRaises(NoDeeds) as caught:
            next(played)
        self.assertEqual(caught.exception.index, 2)
        self.assertEqual(run[7], (6, None))

    def test_errors(self):
        for at, deed, error in [(0, ("next",), NotNow), (1, ("set", 0), NotNow), (2, ["batch", 0], NoDeed), (1, 7, NoDeed)]:
            run = Run(example(), {7: 3})
            deeds = [("call", "old", 7, 5), ("call", "old", 7, 6)][:at] + [deed, ("call", "old", 7, 8)]
            played = run.play(deeds)
            for _ in range(at):
                next(played)
            with self.assertRaises(NoDeeds) as caught:
                next(played)
            self.assertEqual(vars(caught.exception), {"index": at})
            self.assertIs(type(caught.exception.__cause__), error)
            if error is NoDeed:
                self.assertIs(caught.exception.__cause__.deed, deed)
            else:
                self.assertEqual(caught.exception.__cause__.word, "phase" if deed == ("next",) else "worker")
            self.assertEqual(run[7], ([3, 5, 6][at], None))
            self.assertEqual(list(played), [])

    def test_neither_a_list_nor_a_tuple(self):
        for value in strange.values():
            run = Run(example(), {7: 3})
            played = run.play(value)
            if not isinstance(value, (list, tuple)):
                with self.assertRaises(NoDeeds) as caught:
                    next(played)
                self.assertEqual(caught.exception.index, -1)
            elif value:
                with self.assertRaises(NoDeeds) as caught:
                    next(played)
                self.assertEqual(caught.exception.index, 0)
                self.assertIs(caught.exception.__cause__.deed, value[0])
            else:
                self.assertEqual(list(played), [])
        for value in strange.values():
            played = Run(example(), {7: 3}).play([("batch", 0), value])
            next(played)
            with self.assertRaises(NoDeeds) as caught:
                next(played)
            self.assertEqual(caught.exception.index, 1)

    def test_many_deeds(self):
        run = Run(example(BOTH, NOW), {key: key for key in range(200)})
        deeds = [("batch", 0), ("set", 0), ("set", 0), ("save", 0)] * 100 + [("batch", 0)]
        self.assertEqual(set(run.play(deeds)), {None})
        self.assertEqual(run.worker(0), (199, None, [], True))
        self.assertEqual([run[key] for key in run.present()], [(key, key) for key in range(200)])
