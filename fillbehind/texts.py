"""Rollouts as texts."""

from fillbehind.errors import NoFill, NoPhase, NoText, NoWriter
from fillbehind.kinds import are_words
from fillbehind.rollouts import Fill, Phase, Rollout, Writer, check_rollout, is_read, is_way, wrong_phase, wrong_writer
from fillbehind.statements import checks_of

# The first words of the lines, in their order, each with how many lines there are at least and at most.
LINES = (("hands", 1, 1), ("workers", 1, 1), ("writer", 1, 4), ("fill", 1, 1), ("phase", 1, 6), ("back", 0, 15))
FLAGS = ("lock", "only missing", "falls", "again")
PARTS = ("writers", "fills", "promises", "waits")
CHECKS_BY_WORDS = {"missing": "missing", "same-old": "same old", "same-new": "same new"}


def show_rollout(rollout):
    """The text of a rollout."""
    check_rollout(rollout)
    lines = [f"hands {rollout.hands}", f"workers {rollout.workers}"]
    lines.extend([show_writer(writer) for writer in rollout.writers])
    lines.append(show_fill(rollout.fill))
    lines.extend([show_phase(phase) for phase in rollout.phases])
    lines.extend([f"back {phase} {earlier}" for phase, earlier in rollout.back])
    return "".join([line + "\n" for line in lines])


def show_writer(writer):
    """The line of a writer."""
    steps = "; ".join([show_step(step) for step in writer.steps])
    return f"writer {writer.name}: {steps}"


def show_step(step):
    """The words of a step."""
    if is_read(step) or step[0] == "insert":
        return " ".join(step)
    checks = [check.replace(" ", "-") for check in checks_of(step)]
    words = list(step[:-1])
    if len(checks) > 0:
        words = words + ["if"] + checks
    return " ".join(words)


def show_fill(fill):
    """The line of a Fill."""
    flags = (fill.lock, fill.only_missing, fill.falls, fill.again)
    words = [word for word, flag in zip(FLAGS, flags) if flag]
    parts = "; ".join([show_step(fill.statement), f"save {fill.save}"] + words)
    return f"fill by {fill.batch}: {parts}"


def show_phase(phase):
    """The line of a phase."""
    lists = (("writers", phase.writers), ("fills", ()), ("promises", phase.promises), ("waits", phase.waits))
    parts = [" ".join((word,) + words) for word, words in lists if len(words) > 0 or (word == "fills" and phase.fills)]
    if len(parts) == 0:
        return f"phase {phase.name}:"
    return f"phase {phase.name}: " + "; ".join(parts)


def read_rollout(text):
    """The rollout of a text."""
    if not isinstance(text, str):
        raise NoText(-1)
    lines = text.split("\n")
    # What was read so far, by the first words of the lines.
    known = {word: [] for word, least, greatest in LINES}
    for at, line in enumerate(lines[:-1]):
        word = line.partition(" ")[0]
        found = read_line(line, known) if can_stand(word, known) else None
        if found is None:
            raise NoText(at)
        known[word].append(found)
    # The last item is what stands behind the last line feed.
    if lines[-1] != "" or not all([len(known[word]) >= least for word, least, greatest in LINES]):
        raise NoText(len(lines) - 1)
    return Rollout(
        known["writer"], known["fill"][0], known["phase"],
        workers=known["workers"][0], hands=known["hands"][0], back=known["back"],
    )


def can_stand(word, known):
    """Tell whether a line with this first word can stand behind those that were read."""
    is_passed = False
    for other, least, greatest in LINES:
        many = len(known[other])
        if other == word:
            is_passed = True
            if many == greatest:
                return False
        elif not is_passed and many < least:
            return False
        elif is_passed and many > 0:
            return False
    return is_passed


def read_line(line, known):
    """What a line tells that can stand behind those that were read, or None."""
    word = line.partition(" ")[0]
    if word == "hands":
        return read_number(line, 0, 2)
    if word == "workers":
        return read_number(line, 1, 2)
    if word == "writer":
        return read_writer(line, known)
    if word == "fill":
        return read_fill(line)
    if word == "phase":
        return read_phase(line, known)
    return read_way(line, known)


def read_number(line, least, greatest):
    """The number behind the first word of a line, or None."""
    words = line.split(" ")
    return number_of(words[1], least, greatest) if len(words) == 2 else None


def number_of(word, least, greatest):
    """The number within these bounds that is written so, or None."""
    # Words may have more digits than int takes.
    for number in range(least, greatest + 1):
        if word == str(number):
            return number
    return None


def step_of(text):
    """What may be the step with this text."""
    if text == "read":
        return ("read",)
    told, condition, rest = text.partition(" if ")
    words = told.split(" ")
    if condition == "" and words[0] == "insert":
        return tuple(words)
    checks = [CHECKS_BY_WORDS.get(check) for check in rest.split(" ")] if condition != "" else []
    return tuple(words) + (tuple(checks),)


def read_writer(line, known):
    """The Writer of a line, or None."""
    head, colon, rest = line.partition(": ")
    name = head.partition(" ")[2]
    steps = [step_of(text) for text in rest.split("; ")]
    try:
        writer = Writer(name, *steps)
    except NoWriter:
        return None
    return writer if wrong_writer(known["writer"] + [writer]) is None else None


def read_fill(line):
    """The Fill of a line, or None."""
    head, colon, rest = line.partition(": ")
    words = head.split(" ")
    parts = rest.split("; ")
    if len(words) != 3 or words[1] != "by" or len(parts) < 2 or not are_words(parts[2:], FLAGS):
        return None
    save, blank, place = parts[1].partition(" ")
    if save != "save":
        return None
    flags = [word in parts[2:] for word in FLAGS]
    try:
        return Fill(
            step_of(parts[0]), batch=number_of(words[2], 1, 100), save=place,
            lock=flags[0], only_missing=flags[1], falls=flags[2], again=flags[3],
        )
    except NoFill:
        return None


def read_phase(line, known):
    """The Phase of a line, or None."""
    head, colon, rest = line.partition(":")
    told = read_parts(rest)
    if colon == "" or told is None:
        return None
    try:
        phase = Phase(
            head.partition(" ")[2], writers=told.get("writers", ()), fills="fills" in told,
            promises=told.get("promises", ()), waits=told.get("waits", ()),
        )
    except NoPhase:
        return None
    names = [writer.name for writer in known["writer"]]
    return phase if wrong_phase(known["phase"] + [phase], names) is None else None


def read_parts(text):
    """The words of the parts of a phase, by the first words of these, or None."""
    if text == "":
        return {}
    parts = [part.split(" ") for part in text[1:].split("; ")]
    firsts = [part[0] for part in parts]
    if text[0] != " " or not are_words(firsts, PARTS):
        return None
    # Only fills stands alone.
    if not all([(len(part) == 1) == (part[0] == "fills") for part in parts]):
        return None
    return {part[0]: part[1:] for part in parts}


def read_way(line, known):
    """The way back of a line, or None."""
    many = len(known["phase"])
    way = tuple([number_of(word, 0, many - 1) for word in line.split(" ")[1:]])
    return way if is_way(way, many) and way not in known["back"] else None
