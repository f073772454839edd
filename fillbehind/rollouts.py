"""Writers, fills, phases, the rollouts that they make, and the options that make a rollout stricter."""

from fillbehind.errors import NoFill, NoOption, NoPhase, NoRollout, NoWriter
from fillbehind.kinds import are_names, are_words, is_between, is_name, is_plain, is_sequence, is_sized, is_word
from fillbehind.statements import CHECKS, is_statement, needs_input, needs_read, with_check

SAVES = ("last", "first")
PROMISES = ("right", "mild", "kept", "once")
WAITS = ("done", "drained")


def is_read(step):
    """Tell whether a value is the step that reads."""
    return isinstance(step, tuple) and len(step) == 1 and is_word(step[0], ("read",))


def is_behind_read(steps, at):
    """Tell whether one of the steps ahead of this one reads."""
    return any([is_read(step) for step in steps[:at]])


def step_fits(steps, at):
    """Tell whether a value may be the step of a writer at this place, behind those that fit."""
    if is_read(steps[at]):
        return at < len(steps) - 1
    if not is_statement(steps[at]):
        return False
    return is_behind_read(steps, at) or not needs_read(steps[at])


class Writer:
    """A program of 1 to 3 steps for one row."""

    def __init__(self, name, *steps):
        if not is_name(name):
            raise NoWriter("name", -1)
        if not 1 <= len(steps) <= 3:
            raise NoWriter("steps", -1)
        for at in range(len(steps)):
            if not step_fits(steps, at):
                raise NoWriter("steps", at)
        self.name = name
        self.steps = steps
        self.needs_input = any([needs_input(step) for step in steps if not is_read(step)])

    def __eq__(self, other):
        return isinstance(other, Writer) and self.name == other.name and self.steps == other.steps


def is_fill_statement(value):
    """Tell whether a value is a statement for workers: a put, or a set without an input."""
    if not is_statement(value):
        return False
    return value[0] == "put" or (value[0] == "set" and value[1] != "input")


class Fill:
    """What workers do."""

    def __init__(
        self, statement, *, batch=1, save="last", lock=False, only_missing=False, falls=False, again=False
    ):
        if not is_fill_statement(statement):
            raise NoFill("statement")
        if not is_between(batch, 1, 100):
            raise NoFill("batch")
        if not is_word(save, SAVES):
            raise NoFill("save")
        flags = (("lock", lock), ("only_missing", only_missing), ("falls", falls), ("again", again))
        for part, flag in flags:
            if not isinstance(flag, bool):
                raise NoFill(part)
        self.statement = statement
        self.batch = batch
        self.save = save
        self.lock = lock
        self.only_missing = only_missing
        self.falls = falls
        self.again = again

    def __eq__(self, other):
        return (
            isinstance(other, Fill)
            and self.statement == other.statement
            and self.batch == other.batch
            and self.save == other.save
            and self.lock == other.lock
            and self.only_missing == other.only_missing
            and self.falls == other.falls
            and self.again == other.again
        )


class Phase:
    """A part of a rollout: who writes, whether workers go on, what is promised, and what its end waits for."""

    def __init__(self, name, *, writers=(), fills=False, promises=(), waits=()):
        if not is_name(name):
            raise NoPhase("name")
        if not are_names(writers):
            raise NoPhase("writers")
        if not isinstance(fills, bool):
            raise NoPhase("fills")
        if not is_sequence(promises) or not are_words(promises, PROMISES):
            raise NoPhase("promises")
        if not is_sequence(waits) or not are_words(waits, WAITS):
            raise NoPhase("waits")
        self.name = name
        self.writers = tuple(writers)
        self.fills = fills
        self.promises = tuple(promises)
        self.waits = tuple(waits)

    def __eq__(self, other):
        return (
            isinstance(other, Phase)
            and self.name == other.name
            and self.writers == other.writers
            and self.fills == other.fills
            and self.promises == other.promises
            and self.waits == other.waits
        )


def wrong_writer(writers):
    """The index of the first item that is no Writer with a further name, or None."""
    names = []
    for at, writer in enumerate(writers):
        if not isinstance(writer, Writer) or writer.name in names:
            return at
        names.append(writer.name)
    return None


def wrong_phase(phases, known):
    """The index of the first item that is no Phase with a further name and known writers, or None."""
    names = []
    for at, phase in enumerate(phases):
        if not isinstance(phase, Phase) or phase.name in names:
            return at
        if not all([name in known for name in phase.writers]):
            return at
        names.append(phase.name)
    return None


def is_way(value, many):
    """Tell whether a value is a pair of the index of a phase and of an earlier one, out of so many."""
    if not isinstance(value, tuple) or len(value) != 2 or not is_between(value[0], 0, many - 1):
        return False
    return is_between(value[1], 0, value[0] - 1)


def wrong_way(back, many):
    """The index of the first item that is no further pair to go back by, or None."""
    ways = []
    for at, way in enumerate(back):
        if not is_way(way, many) or way in ways:
            return at
        ways.append(way)
    return None


class Rollout:
    """Writers, a fill and the phases that they pass through."""

    def __init__(self, writers, fill, phases, *, workers=1, hands=1, back=()):
        if not is_sized(writers, 1, 4):
            raise NoRollout("writers", -1)
        wrong = wrong_writer(writers)
        if wrong is not None:
            raise NoRollout("writers", wrong)
        if not isinstance(fill, Fill):
            raise NoRollout("fill", -1)
        if not is_sized(phases, 1, 6):
            raise NoRollout("phases", -1)
        wrong = wrong_phase(phases, [writer.name for writer in writers])
        if wrong is not None:
            raise NoRollout("phases", wrong)
        if not is_between(workers, 1, 2):
            raise NoRollout("workers", -1)
        if not is_between(hands, 0, 2):
            raise NoRollout("hands", -1)
        if not is_sequence(back):
            raise NoRollout("back", -1)
        wrong = wrong_way(back, len(phases))
        if wrong is not None:
            raise NoRollout("back", wrong)
        self.writers = tuple(writers)
        self.fill = fill
        self.phases = tuple(phases)
        self.workers = workers
        self.hands = hands
        self.back = tuple(back)
        self.counts = any(["once" in phase.promises for phase in phases])
        self.keeps = any(["kept" in phase.promises for phase in phases])

    def __len__(self):
        return len(self.phases)

    def __eq__(self, other):
        return (
            isinstance(other, Rollout)
            and self.writers == other.writers
            and self.fill == other.fill
            and self.phases == other.phases
            and self.workers == other.workers
            and self.hands == other.hands
            and self.back == other.back
        )

    def __or__(self, other):
        if not is_plain(other) or other not in options_where(self, False):
            raise NoOption(other)
        return with_option(self, other)

    def __contains__(self, x):
        return is_plain(x) and x in options_where(self, True)


def writer_at(rollout, name):
    """The index of the writer with a name, or None."""
    for at, writer in enumerate(rollout.writers):
        if writer.name == name:
            return at
    return None


def check_rollout(value):
    """Raise the error that is stated for what is no Rollout."""
    if not isinstance(value, Rollout):
        raise NoRollout("rollout", -1)


def options_where(rollout, taken):
    """The options of a rollout that are there already, or those that can be taken, in their order."""
    return [option for option, is_there in all_options(rollout) if is_there == taken]


def all_options(rollout):
    """All options that a rollout may have, in their order, each with whether it is there."""
    found = []
    for writer in rollout.writers:
        found.extend(writer_options(writer))
    found.extend(fill_options(rollout.fill))
    for phase in rollout.phases[:-1]:
        found.extend([(("wait", phase.name, word), word in phase.waits) for word in WAITS])
    return found


def writer_options(writer):
    """The options of the steps of a writer, each with whether it is there."""
    return [
        (("check", writer.name, at, word), word in writer.steps[at][-1])
        for at in range(len(writer.steps))
        for word in possible_checks(writer.steps, at)
    ]


def possible_checks(steps, at):
    """The checks that the step at this place may have."""
    if is_read(steps[at]) or steps[at][0] == "insert":
        return ()
    if is_behind_read(steps, at):
        return CHECKS
    return ("missing",)


def fill_options(fill):
    """The options of a Fill, each with whether it is there."""
    found = [(("fill", word), word in fill.statement[-1]) for word in CHECKS]
    found.append((("fill", "lock"), fill.lock))
    found.append((("fill", "only missing"), fill.only_missing))
    found.append((("fill", "save last"), fill.save == "last"))
    return found


def with_option(rollout, option):
    """The rollout with an option that can be taken."""
    writers, fill, phases = rollout.writers, rollout.fill, rollout.phases
    if option[0] == "check":
        writers = [stricter_writer(writer, option) for writer in writers]
    elif option[0] == "fill":
        fill = stricter_fill(fill, option[1])
    else:
        phases = [stricter_phase(phase, option) for phase in phases]
    return rebuilt(rollout, writers, fill, phases, rollout.back)


def rebuilt(rollout, writers, fill, phases, back):
    """The rollout with these parts, and as many workers and hands as it has."""
    return Rollout(writers, fill, phases, workers=rollout.workers, hands=rollout.hands, back=back)


def stricter_writer(writer, option):
    """The writer with an option, if it is one of this writer."""
    name, at, word = option[1:]
    if writer.name != name:
        return writer
    steps = list(writer.steps)
    steps[at] = with_check(steps[at], word)
    return Writer(name, *steps)


def stricter_fill(fill, word):
    """The Fill with an option."""
    # A word that is no check leaves the checks of the statement as they are.
    return Fill(
        with_check(fill.statement, word),
        batch=fill.batch,
        save="last" if word == "save last" else fill.save,
        lock=fill.lock or word == "lock",
        only_missing=fill.only_missing or word == "only missing",
        falls=fill.falls,
        again=fill.again,
    )


def stricter_phase(phase, option):
    """The phase with an option, if it is one of this phase."""
    name, word = option[1:]
    if phase.name != name:
        return phase
    waits = [wait for wait in WAITS if wait == word or wait in phase.waits]
    return Phase(name, writers=phase.writers, fills=phase.fills, promises=phase.promises, waits=waits)
