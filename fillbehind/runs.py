"""Runs: tables on which a rollout runs, deed by deed."""

from fillbehind.crew import IDLE, behind_batch, behind_fall, behind_save, behind_set, can_work
from fillbehind.effects import NOTHING, broken_words, by_step, by_worker
from fillbehind.errors import NoDeed, NoDeeds, NoKey, NoNumber, NoRun, NotNow
from fillbehind.kinds import is_between, is_integer, is_plain, is_sequence
from fillbehind.rollouts import Rollout, is_read, writer_at

# How many items the tuple of each deed has.
SIZES = {
    "call": 4, "go": 2, "batch": 2, "set": 2, "save": 2, "fall": 2, "again": 2, "next": 1, "back": 2,
}


def is_deed(rollout, value):
    """Tell whether a value is a deed for runs of a rollout, whether or not it can be done."""
    if not is_plain(value) or len(value) == 0 or value[0] not in SIZES or len(value) != SIZES[value[0]]:
        return False
    if value[0] == "call":
        return is_call(rollout, value)
    if value[0] == "next":
        return True
    if value[0] == "go":
        return is_integer(value[1]) and value[1] >= 0
    if value[0] == "back":
        return is_between(value[1], 0, len(rollout) - 1)
    return is_between(value[1], 0, rollout.workers - 1)


def is_call(rollout, deed):
    """Tell whether a tuple of this form names a writer, a key, and an input just if the writer needs one."""
    at = writer_at(rollout, deed[1])
    if at is None or not is_integer(deed[2]):
        return False
    if rollout.writers[at].needs_input:
        return is_integer(deed[3])
    return deed[3] is None


def are_olds(rows):
    """Tell whether a value is a dict from integers to integers."""
    if not isinstance(rows, dict):
        return False
    return all([is_integer(key) and is_integer(rows[key]) for key in rows])


def has_row(known, key):
    """Tell whether a value is a key with a row."""
    return is_integer(key) and key in known and known[key][0] is not None


class Run:
    """A table on which a rollout runs."""

    def __init__(self, rollout, rows):
        if not isinstance(rollout, Rollout):
            raise NoRun("rollout")
        if not are_olds(rows):
            raise NoRun("rows")
        self.rollout = rollout
        # What is known of each key that was named so far, also of those whose row is gone.
        self.known = {key: ((rows[key], None), rows[key], 0) for key in rows}
        self.current = 0
        self.begun = 0
        # The calls in flight, as `calls` tells them, by their numbers; a dict keeps these ascending.
        self.flying = {}
        self.crew = [IDLE for index in range(rollout.workers)]

    def __getitem__(self, at):
        if not has_row(self.known, at):
            raise NoKey(at)
        return self.known[at][0]

    def __contains__(self, x):
        return has_row(self.known, x)

    def __len__(self):
        return len(self.present())

    def __iter__(self):
        raise TypeError("a run cannot be gone through")

    @property
    def phase(self):
        """The phase in which the rollout is."""
        return self.current

    def present(self):
        """The ascending list of the keys with a row."""
        return sorted([key for key in self.known if self.known[key][0] is not None])

    def last(self, key):
        """What the calls made of the row of a key, or None."""
        return self.told_of(key)[1]

    def count(self, key):
        """How often statements of workers have taken effect on the row of a key since it was made."""
        return self.told_of(key)[2]

    def told_of(self, key):
        """What is known of a key."""
        if not is_integer(key):
            raise NoNumber("key")
        return self.known.get(key, NOTHING)

    def calls(self):
        """The list of the calls in flight, by their numbers."""
        return list(self.flying.values())

    def worker(self, index):
        """The cursor of a worker, the last key and the rows left of the batch in hand, and whether it is done."""
        if not is_between(index, 0, self.rollout.workers - 1):
            raise NoNumber("index")
        cursor, covers, pending, is_done = self.crew[index]
        return (cursor, covers, list(pending), is_done)

    def broken(self):
        """The least key that breaks promises of the phase, with the words that it breaks, or None."""
        for key in sorted(list(self.known)):
            words = broken_words(self.rollout, self.current, self.known[key])
            if len(words) > 0:
                return (key, words)
        return None

    def do(self, deed):
        """Do a deed."""
        if not is_deed(self.rollout, deed):
            raise NoDeed(deed)
        word = self.why_not(deed)
        if word is not None:
            raise NotNow(word)
        self.carry_out(deed)

    def play(self, deeds):
        """Do deeds, each when the next item is asked for, and yield what is broken behind it."""
        if not is_sequence(deeds):
            raise NoDeeds(-1)
        for at, deed in enumerate(deeds):
            try:
                self.do(deed)
            except (NoDeed, NotNow) as why:
                raise NoDeeds(at) from why
            yield self.broken()

    def why_not(self, deed):
        """The first word that tells why a deed cannot be done now, or None."""
        if deed[0] == "call":
            return self.why_no_call(deed[1], deed[2])
        if deed[0] == "go":
            return self.why_no_step(deed[1])
        if deed[0] == "next":
            return self.why_no_next()
        if deed[0] == "back":
            return None if (self.current, deed[1]) in self.rollout.back else "back"
        return self.why_no_work(deed[0], deed[1])

    def why_no_call(self, name, key):
        """The first word that tells why a call cannot begin now, or None."""
        steps = self.steps_of(name)
        if name not in self.rollout.phases[self.current].writers:
            return "phase"
        on_key = [call for call in self.calls() if call[2] == key]
        if len(steps) > 1 and len(on_key) >= self.rollout.hands:
            return "hands"
        return self.why_no_access(steps[0], key)

    def why_no_step(self, number):
        """The first word that tells why a call cannot make its next step now, or None."""
        if number not in self.flying:
            return "call"
        call = self.flying[number]
        return self.why_no_access(self.steps_of(call[1])[call[3]], call[2])

    def why_no_access(self, step, key):
        """The word that tells why a step of a call cannot get at the row of a key now, or None."""
        return "locked" if not is_read(step) and self.is_locked(key) else None

    def why_no_next(self):
        """The first word that tells why the rollout cannot go on to the next phase now, or None."""
        if self.current == len(self.rollout) - 1:
            return "phase"
        waits = self.rollout.phases[self.current].waits
        if "done" in waits and not all([is_done for cursor, covers, pending, is_done in self.crew]):
            return "done"
        later = self.rollout.phases[self.current + 1].writers
        if "drained" in waits and not all([call[1] in later for call in self.calls()]):
            return "drained"
        return None

    def why_no_work(self, word, index):
        """The first word that tells why a worker cannot do its deed with this word now, or None."""
        if not self.rollout.phases[self.current].fills:
            return "phase"
        if not can_work(self.rollout.fill, word, self.crew[index]):
            return "worker"
        if word == "batch" and any([self.is_locked(key) for key, row in self.next_batch(index)]):
            return "locked"
        return None

    def steps_of(self, name):
        """The steps of the writer with a name."""
        return self.rollout.writers[writer_at(self.rollout, name)].steps

    def is_locked(self, key):
        """Tell whether the row of a key is locked by a worker."""
        if not self.rollout.fill.lock:
            return False
        return any([held == key for worker in self.crew for held, seen in worker[2]])

    def next_batch(self, index):
        """The pairs of the keys and rows that a worker would read now, a tuple."""
        cursor, fill = self.crew[index][0], self.rollout.fill
        keys = [key for key in self.present() if cursor is None or key > cursor]
        if fill.only_missing:
            keys = [key for key in keys if self.known[key][0][1] is None]
        return tuple([(key, self.known[key][0]) for key in keys[:fill.batch]])

    def carry_out(self, deed):
        """Do a deed that can be done."""
        if deed[0] == "call":
            self.begun += 1
            self.make_step((self.begun - 1, deed[1], deed[2], 0, deed[3], None))
        elif deed[0] == "go":
            self.make_step(self.flying[deed[1]])
        elif deed[0] == "next":
            self.current += 1
        elif deed[0] == "back":
            self.current = deed[1]
        else:
            self.crew[deed[1]] = self.work(deed[0], deed[1])

    def make_step(self, call):
        """Make the next step of a call."""
        number, name, key, step, value, seen = call
        known, seen, goes_on = by_step(self.steps_of(name), step, self.told_of(key), value, seen)
        self.known[key] = known
        if goes_on:
            self.flying[number] = (number, name, key, step + 1, value, seen)
        elif number in self.flying:
            del self.flying[number]

    def work(self, word, index):
        """Do the deed of a worker with this word, and tell the worker behind it."""
        fill, worker = self.rollout.fill, self.crew[index]
        if word == "batch":
            return behind_batch(worker, self.next_batch(index))
        if word == "set":
            key, seen = worker[2][0]
            self.known[key] = by_worker(fill.statement, self.told_of(key), seen)
            return behind_set(fill, worker)
        if word == "save":
            return behind_save(fill, worker)
        return behind_fall(worker) if word == "fall" else IDLE
