"""Point 51: rollouts as texts."""

import inspect
import itertools
import random
import re
import time

from fillbehind.errors import NoRollout, NoText
from fillbehind.rollouts import Fill, Phase, Rollout, Writer
from fillbehind.texts import read_rollout, show_rollout
from tests import strange
from tests.cases import Case, no_rollouts
from tests.rolls import COPY, KEEP, READ, example, rollout as made
from tests.test_options import rollout as many_options

EXAMPLE = "hands 1\nworkers 1\nwriter old: set input keep\nfill by 2: set keep read; save last\nphase one: writers old; fills; promises mild\n"
FULL = (
    "hands 2\nworkers 2\nwriter plain: set input keep; insert now; delete if missing\n"
    "writer reads: delete; read; put now if same-old\nwriter full: read; set keep copy if missing same-old same-new\n"
    "fill by 100: set read none if missing same-new; save first; lock; only missing; falls; again\n"
    "phase one: writers plain full; promises right mild kept once; waits done drained\nphase two: fills; waits drained\n"
    "phase three:\nback 2 0\nback 1 0\n"
)
NAME = "[a-z]{1,12}"


def full():
    return Rollout(
        [
            Writer("plain", ("set", "input", "keep", ()), ("insert", "now"), ("delete", ("missing",))),
            Writer("reads", ("delete", ()), READ, ("put", "now", ("same old",))),
            Writer("full", READ, ("set", "keep", "copy", ("missing", "same old", "same new"))),
        ],
        Fill(("set", "read", "none", ("missing", "same new")), batch=100, save="first", lock=True, only_missing=True, falls=True, again=True),
        [Phase("one", writers=("plain", "full"), promises=("right", "mild", "kept", "once"), waits=("done", "drained")),
         Phase("two", fills=True, waits=("drained",)), Phase("three")],
        workers=2, hands=2, back=[(2, 0), (1, 0)])


def all_steps():
    """All texts of steps, each with its step."""
    found = {"read": READ, "insert none": ("insert", "none"), "insert now": ("insert", "now")}
    words = [("set", old, new) for old in ("keep", "input", "read") for new in ("keep", "none", "now", "read", "copy")]
    words += [("put", new) for new in ("none", "now", "read", "copy")] + [("delete",)]
    for many in range(4):
        for checks in itertools.combinations(("missing", "same old", "same new"), many):
            for told in words:
                condition = " if " + " ".join(check.replace(" ", "-") for check in checks) if checks else ""
                found[" ".join(told) + condition] = (*told, checks)
    return found


STEPS = all_steps()


def model(text):
    """What [51] tells of a text, written a second time: a rollout, or the number of a line."""
    lines = text.split("\n")
    tail = lines.pop()
    found = {"hands": [], "workers": [], "writer": [], "fill": [], "phase": [], "back": []}
    bounds = {"hands": (1, 1), "workers": (1, 1), "writer": (1, 4), "fill": (1, 1), "phase": (1, 6), "back": (0, 99)}
    place = list(found)
    for at, line in enumerate(lines):
        word = line.split(" ")[0]
        if word not in found or len(found[word]) == bounds[word][1]:
            return at
        if any(len(found[other]) < bounds[other][0] for other in place[:place.index(word)]):
            return at
        if any(found[other] for other in place[place.index(word) + 1:]):
            return at
        part = model_line(word, line, found)
        if part is None:
            return at
        found[word].append(part)
    if tail or any(len(found[word]) < bounds[word][0] for word in found):
        return len(lines)
    return Rollout(found["writer"], found["fill"][0], found["phase"], workers=found["workers"][0], hands=found["hands"][0],
                   back=found["back"])


def model_line(word, line, found):
    if word in ("hands", "workers"):
        told = re.fullmatch({"hands": "hands ([012])", "workers": "workers ([12])"}[word], line)
        return told and int(told[1])
    if word == "writer":
        told = re.fullmatch(f"writer ({NAME}): (.*)", line)
        steps = told and [STEPS.get(step) for step in told[2].split("; ")]
        if not steps or None in steps or len(steps) > 3 or steps[-1] == READ or told[1] in [writer.name for writer in found["writer"]]:
            return None
        for at, step in enumerate(steps):
            if step != READ and READ not in steps[:at]:
                if step[0] == "put" or {"read", "copy"} & set(step[1:3]) or {"same old", "same new"} & set(step[-1]):
                    return None
        return Writer(told[1], *steps)
    if word == "fill":
        flags = "(; lock)?(; only missing)?(; falls)?(; again)?"
        told = re.fullmatch(f"fill by ([1-9][0-9]?|100): ([^;]*); save (last|first){flags}", line)
        step = told and STEPS.get(told[2])
        if not step or step[0] not in ("set", "put") or step[1] == "input":
            return None
        lock, only, falls, again = [told[at] is not None for at in range(4, 8)]
        return Fill(step, batch=int(told[1]), save=told[3], lock=lock, only_missing=only, falls=falls, again=again)
    return model_phase(line, found) if word == "phase" else model_way(line, found)


def model_phase(line, found):
    words = {"promises": "right|mild|kept|once", "waits": "done|drained", "writers": NAME}
    lists = {name: f"{name}(?: (?:{words[name]}))+" for name in words}
    parts = f"(?:; (?P<writers>{lists['writers']}))?(?P<fills>; fills)?(?:; (?P<promises>{lists['promises']}))?(?:; (?P<waits>{lists['waits']}))?"
    told = re.fullmatch(f"phase ({NAME}):(.*)", line)
    if not told or told[2] and told[2][0] != " " or told[1] in [phase.name for phase in found["phase"]]:
        return None
    inside = told[2] and re.fullmatch(parts, ";" + told[2])
    if told[2] and not inside:
        return None
    lists = {name: (inside[name] or name).split(" ")[1:] if inside else [] for name in words}
    order = {"promises": ["right", "mild", "kept", "once"], "waits": ["done", "drained"]}
    for name in order:
        places = [order[name].index(word) for word in lists[name]]
        if places != sorted(set(places)):
            return None
    known = [writer.name for writer in found["writer"]]
    if len(set(lists["writers"])) != len(lists["writers"]) or not set(lists["writers"]) <= set(known):
        return None
    return Phase(told[1], **lists, fills=bool(inside and inside["fills"]))


def model_way(line, found):
    told = re.fullmatch("back ([0-5]) ([0-5])", line)
    way = told and (int(told[1]), int(told[2]))
    return way if way and way[1] < way[0] < len(found["phase"]) and way not in found["back"] else None


class TestShow(Case):
    def test_example(self):
        self.assertEqual(show_rollout(example()), EXAMPLE)
        self.assertEqual(show_rollout(rollout=example()), EXAMPLE)
        self.assertEqual(str(inspect.signature(show_rollout)), "(rollout)")
        self.assertEqual(str(inspect.signature(read_rollout)), "(text)")

    def test_all_words(self):
        self.assertEqual(show_rollout(full()), FULL)
        self.assertEqual(
            show_rollout(many_options()).split("\n")[5:8],
            ["fill by 3: set keep read if same-old; save first; falls", "phase one: writers plain full; promises mild",
             "phase two: fills; waits drained"])

    def test_each_flag(self):
        for flags in itertools.product([False, True], repeat=4):
            told = dict(zip(("lock", "only_missing", "falls", "again"), flags))
            rollout = Rollout([Writer("w", KEEP)], Fill(COPY, **told), [Phase("p")])
            words = [name.replace("_", " ") for name in told if told[name]]
            self.assertEqual(show_rollout(rollout).split("\n")[3], "; ".join(["fill by 1: set keep read; save last", *words]))
            self.assertEqual(read_rollout(show_rollout(rollout)), rollout)

    def test_each_part_of_a_phase(self):
        parts = {"writers": ("writers w", ("w",)), "fills": ("fills", True), "promises": ("promises once", ("once",)),
                 "waits": ("waits done", ("done",))}
        for many in range(5):
            for some in itertools.combinations(parts, many):
                rollout = Rollout([Writer("w", KEEP)], Fill(COPY), [Phase("p", **{name: parts[name][1] for name in some})])
                told = "phase p:" + "".join([" ", "; ".join(parts[name][0] for name in some)] if some else [])
                self.assertEqual(show_rollout(rollout).split("\n")[4], told)
                self.assertEqual(read_rollout(show_rollout(rollout)), rollout)

    def test_each_step(self):
        for text, step in STEPS.items():
            if step != READ:
                rollout = Rollout([Writer("w", READ, step)], Fill(COPY), [Phase("p")])
                self.assertEqual(show_rollout(rollout).split("\n")[2], f"writer w: read; {text}")
                self.assertEqual(read_rollout(show_rollout(rollout)), rollout)

    def test_no_rollout(self):
        for value in no_rollouts():
            self.fails(NoRollout, {"part": "rollout", "index": -1}, show_rollout, value)


class TestRead(Case):
    def wrong(self, line, text):
        self.fails(NoText, {"line": line}, read_rollout, text)

    def bent(self, line, *others):
        """The full text is refused at this line with each of these in its place."""
        lines = FULL.split("\n")
        for other in others:
            self.wrong(line, "\n".join([*lines[:line], other, *lines[line + 1:]]))

    def test_example(self):
        self.assertEqual(read_rollout(EXAMPLE), example())
        self.assertEqual(read_rollout(text=FULL), full())

    def test_many_rollouts(self):
        for seed in range(600):
            for small in (False, True):
                rollout = made(seed, small=small)
                text = show_rollout(rollout)
                self.assertTrue(text.endswith("\n"))
                self.assertEqual(read_rollout(text), rollout)
                self.assertEqual(model(text), rollout)
                self.assertEqual(show_rollout(read_rollout(text)), text)

    def test_no_string(self):
        for value in strange.values():
            if type(value) is not str:
                self.wrong(-1, value)
        self.wrong(-1, EXAMPLE.encode())
        self.wrong(-1, EXAMPLE.split("\n"))

    def test_strings(self):
        for value in strange.values():
            if type(value) is str:
                self.wrong(0, value)
        self.wrong(0, "\n" + EXAMPLE)
        self.wrong(0, EXAMPLE.upper())
        self.wrong(0, "\ufeff" + EXAMPLE)

    def test_texts_that_end_too_early(self):
        for text, needed in ((EXAMPLE, 5), (FULL, 7)):
            lines = text.split("\n")[:-1]
            for many in range(needed):
                self.wrong(many, "".join(line + "\n" for line in lines[:many]))
            for many in range(needed, len(lines)):
                read_rollout("".join(line + "\n" for line in lines[:many]))

    def test_what_stands_behind_the_last_line_feed(self):
        for text in (EXAMPLE, FULL):
            lines = text.split("\n")[:-1]
            for many in range(len(lines)):
                for tail in (lines[many], lines[many][:-1], " ", "x", "\r"):
                    self.wrong(many, "".join(line + "\n" for line in lines[:many]) + tail)
            for tail in (" ", "back 2 1", "phase four:", "x", "\r", "\x00"):
                self.wrong(len(lines), text + tail)
            self.wrong(len(lines), text + "\n")
            self.wrong(len(lines), text + "\n\n")
            self.wrong(len(lines) - 1, text[:-1])

    def test_line_feeds(self):
        for other in ("\r\n", "\r", "\x0b", "\x0c", "\x85", "\u2028", "\n\n"):
            self.wrong(1 if other == "\n\n" else 0, EXAMPLE.replace("\n", other))

    def test_the_order_of_the_lines(self):
        lines = EXAMPLE.split("\n")[:-1]
        for order in itertools.permutations(range(5)):
            if order != tuple(range(5)):
                first = [at == place for at, place in enumerate(order)].index(False)
                self.wrong(first, "".join(lines[at] + "\n" for at in order))
        whole = FULL.split("\n")[:-1]
        for at in range(len(whole)):
            for line in whole:
                self.checks("".join(row + "\n" for row in [*whole[:at], line, *whole[at:]]))
                self.checks("".join(row + "\n" for row in [*whole[:at], line, *whole[at + 1:]]))
            self.checks("".join(row + "\n" for row in [*whole[:at], *whole[at + 1:]]))

    def test_numbers(self):
        long = "1" * 5000
        for word in ("-1", "+1", "00", "01", "3", "10", "", " 1", "1 ", "1.0", "1e0", "x", "\u0661", "1_0", long, "0" * 5000, "-" + long, "1 1"):
            self.bent(0, f"hands {word}")
            self.bent(1, f"workers {word}")
        self.bent(1, "workers 0", "workers", "workers ", "workers  1", "Workers 1", "worker 1", "hands 1")
        self.bent(0, "hands", "hands ", "hands  1", "hand 1", "", "workers 1", "hands 3", "hands-1", "hands\t1", " hands 1")
        for word in ("0", "101", "-1", "+1", "01", "001", "1000", "", " 1", "1 ", "1 0", "x", "\u0661", "\u00b2", long, "0" * 5000, "1" + "0" * 4999):
            self.bent(5, f"fill by {word}: set keep none; save last")
        for batch in range(1, 101):
            self.assertEqual(read_rollout(EXAMPLE.replace("by 2", f"by {batch}")).fill.batch, batch)
        for hands, workers in itertools.product(range(3), (1, 2)):
            rollout = read_rollout(EXAMPLE.replace("hands 1", f"hands {hands}").replace("workers 1", f"workers {workers}"))
            self.assertEqual((rollout.hands, rollout.workers), (hands, workers))
        for way in ("3 0", "0 0", "1 1", "0 1", "-1 0", "1 -1", "2 3", "2", "2 ", " 2 0", "2  0", "2 0 ", "2 0 1", "02 0", "2 00", "+2 0", "2 1",
                    f"{long} 0", f"2 {long}", "2 1x", "\u0662 0", "x y", ""):
            if way == "2 1":
                self.assertEqual(read_rollout(FULL + "back 2 1\n").back, ((2, 0), (1, 0), (2, 1)))
            else:
                self.bent(9, f"back {way}")
        self.bent(10, "back 2 0")
        self.wrong(11, FULL + "back 1 0\n")

    def test_writers(self):
        self.bent(
            2, "writer plain", "writer plain:", "writer plain: ", "writer : delete", "writer: delete", "writer  plain: delete",
            "writer Plain: delete", "writer abcdefghijklm: delete", "writer p1: delete", "writer plain : delete", "writer plain:delete",
            "writer plain:  delete", "writer plain: delete ", "writer plain: delete;", "writer plain: delete; ", "writer plain: delete;delete",
            "writer plain: delete ; delete", "writer plain: delete;  delete", "writer plain: delete; delete; delete; delete",
            "writer plain: read", "writer plain: read; read", "writer plain: delete; read", "writer plain: put now",
            "writer plain: set read keep", "writer plain: set keep copy", "writer plain: delete if same-old", "writer plain: delete if same-new; read",
            "writer plain: delete if", "writer plain: delete if ", "writer plain: delete if same old", "writer plain: delete if missing missing",
            "writer plain: read; delete if same-old missing", "writer plain: read; delete if missing  same-old", "writer plain: read if missing; delete",
            "writer plain: insert now if missing", "writer plain: insert", "writer plain: insert keep", "writer plain: set keep", "writer plain: set",
            "writer plain: set keep keep keep", "writer plain: set keep keep if if missing", "writer plain: set  keep keep", "writer plain: set input input",
            "writer plain: remove", "writer plain: delete\t", "writer plain: delete: delete", "writer plain extra: delete", "writer  : delete", "writer",
            "writer plain: delete if missing if same-old", "writer plain: insert now ", "writer plain: read ; delete", "writer plain: delete ()",
            "writer a:b: delete", "Writer plain: delete", "writers plain: delete")
        self.bent(3, "writer plain: delete")
        self.bent(4, "writer reads: delete", "writer plain: read; set keep copy")
        lines = FULL.split("\n")
        fourth = [*lines[:5], "writer four: delete"]
        read_rollout("\n".join([*fourth, *lines[5:]]))
        self.wrong(6, "\n".join([*fourth, "writer five: delete", *lines[5:]]))

    def test_fills(self):
        self.bent(
            5, "fill by 1", "fill by 1:", "fill by 1: ", "fill by 1: set keep none", "fill by 1: set keep none;", "fill by 1: set keep none; save",
            "fill by 1: set keep none; save ", "fill by 1: set keep none; save middle", "fill by 1: set keep none; save last;",
            "fill by 1: set keep none; save last; ", "fill by 1: set keep none; save  last", "fill by 1: set keep none; save last ",
            "fill by 1: save last; set keep none", "fill by 1: set input none; save last", "fill by 1: insert now; save last",
            "fill by 1: delete; save last", "fill by 1: read; save last", "fill by 1: set keep none; save last; again; lock",
            "fill by 1: set keep none; save last; lock; lock", "fill by 1: set keep none; save last; only-missing",
            "fill by 1: set keep none; save last; only  missing", "fill by 1: set keep none; save last; only_missing",
            "fill by 1: set keep none; lock; save last", "fill by 1: set keep none; save last first", "fill by 1: set keep none;save last",
            "fill 1: set keep none; save last", "fill by  1: set keep none; save last", "fill by 1 : set keep none; save last",
            "fill by: set keep none; save last", "fill by 1:set keep none; save last", "fill at 1: set keep none; save last",
            "fill by 1 2: set keep none; save last", "fill by 1: set keep none; Save last", "fill by 1: set keep none; saves last", "fill",
            "fill by 1: set keep none; save last; lock falls", "fill by 1: set keep none if; save last", "fill by 1: ; save last",
            "fill by 1: put keep; save last", "fill by 1: set keep none; last", "fill by 1: set keep none; save last; save last", "fills by 1: put now; save last")
        lines = EXAMPLE.split("\n")
        self.wrong(4, "\n".join([*lines[:4], lines[3], *lines[4:]]))

    def test_phases(self):
        self.bent(
            6, "phase one", "phase one: ", "phase one:fills", "phase one:  fills", "phase one : fills", "phase : fills", "phase: fills", "phase One: fills",
            "phase abcdefghijklm:", "phase one: fills;", "phase one: fills; ", "phase one: ; fills", "phase one: fills ", "phase one: fills fills",
            "phase one: fills; fills", "phase one: fills; writers plain", "phase one: waits done; promises mild", "phase one: promises mild; fills",
            "phase one: writers", "phase one: writers ", "phase one: writers  plain", "phase one: writers plain ", "phase one: writers plain plain",
            "phase one: writers nobody", "phase one: writers plain nobody", "phase one: writers Plain", "phase one: promises", "phase one: promises ",
            "phase one: promises mild right", "phase one: promises mild mild", "phase one: promises nothing", "phase one: promises done",
            "phase one: waits", "phase one: waits drained done", "phase one: waits mild", "phase one: waits  done", "phase one: fills;waits done",
            "phase one: fills ; waits done", "phase one: fills;  waits done", "phase one: fill", "phase one: writer plain", "phase one::", "phase one: :",
            "phase one two:", "phase", "phase ", "phase  one:", "phases one:", "phase one:\t", "phase one: writers plain; writers full",
            "phase one: no fills", "phase one: True")
        self.bent(7, "phase one: fills")
        self.bent(8, "phase two:", "phase one:")
        lines = FULL.split("\n")
        six = [*lines[:9], *[f"phase {name}:" for name in ("four", "five", "six")]]
        self.assertEqual(len(read_rollout("\n".join([*six, *lines[9:]]))), 6)
        self.wrong(12, "\n".join([*six, "phase seven:", *lines[9:]]))
        self.wrong(11, FULL + "phase four:\n")
        # A pair of back may be one of phases that come late alone.
        self.assertEqual(read_rollout("\n".join([*six, "back 5 4", ""])).back, ((5, 4),))

    def checks(self, text):
        """The text is read, or refused, as the model tells."""
        told = model(text)
        if type(told) is int:
            self.wrong(told, text)
        else:
            self.assertEqual(read_rollout(text), told)
            self.assertEqual(show_rollout(told), text)

    def test_each_character_gone_twice_or_another(self):
        for text in (EXAMPLE, FULL):
            for at in range(len(text)):
                self.checks(text[:at] + text[at + 1:])
                for char in " ;:\n0129az-A\r":
                    self.checks(text[:at] + char + text[at:])
                    self.checks(text[:at] + char + text[at + 1:])

    def test_words_by_chance(self):
        words = re.findall(r"[a-z-]+|[0-9]+|; |: |\n| ", FULL) + ["insert", "keep", "input", "first", "01", "-1", "101", "  ", ";", ":"]
        read = 0
        for seed in range(3000):
            chance = random.Random(seed)
            pieces = re.findall(r"[a-z-]+|[0-9]+|; |: |\n| ", show_rollout(made(seed % 300)))
            for _ in range(chance.choice([1, 1, 1, 2])):
                at = chance.randrange(len(pieces))
                pieces[at:at + chance.choice([0, 1, 1, 1, 2])] = [chance.choice(words)] * chance.choice([0, 1, 1, 1])
            self.checks("".join(pieces))
            read += type(model("".join(pieces))) is Rollout
        self.assertGreater(read, 100)

    def test_all_pairs_of_back(self):
        phases = [Phase(name) for name in ("one", "two", "three", "four", "five", "six")]
        pairs = [(late, early) for early in range(6) for late in range(early + 1, 6)]
        rollout = Rollout([Writer("w", KEEP)], Fill(COPY), phases, back=pairs)
        text = show_rollout(rollout)
        self.assertEqual(text.split("\n")[10:], [*[f"back {late} {early}" for late, early in pairs], ""])
        self.assertEqual(read_rollout(text), rollout)
        self.wrong(25, text + "back 1 0\n")

    def test_long_texts(self):
        ahead = time.monotonic()
        self.wrong(2, "hands 1\nworkers 1\n" + "writer " + "a" * 10 ** 6 + ": delete\n")
        self.wrong(2, "hands 1\nworkers 1\n" + "writer a: " + "delete; " * 10 ** 5 + "delete\n")
        self.wrong(5, EXAMPLE + "\n" * 10 ** 6)
        self.wrong(6, FULL.replace("promises right", "promises" + " right" * 10 ** 5))
        self.wrong(6, FULL.replace("writers plain", "writers" + " plain" * 10 ** 5))
        self.wrong(5, FULL.replace("; lock", "; lock" * 10 ** 5))
        self.assertLess(time.monotonic() - ahead, 20)
