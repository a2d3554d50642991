"""Promises 11 and 12 of stage 4: desks by lines, and lines that are none ([4], [5], [10], [12] to [14], [16], interface)."""

import re
import unittest

from ringshares import errors
from ringshares.cells import kept
from ringshares.console import Console
from ringshares.desks import Desk
from ringshares.errors import InvalidText, NotARing
from ringshares.fates import is_able, is_safe
from ringshares.plans import Plan
from ringshares.rings import Ring
from tests.fate_models import JOIN, SETTLE, word_ring
from tests.models import MOST
from tests.support import (
    APART_TEXT, NAME, NAMES, NO_NAMES, ODD_VALUES, PLAIN_TEXT, EqualToAll, Numbers, assert_raises_with, bent_by_signs,
    bent_by_words, plain_ring,
)
from tests.test_desks import NO_RINGS, shown

N = "(?:0|[1-9][0-9]{0,18})"
LINE = re.compile(
    f"do (?:settle|(?:leave|down|up|wipe) {NAME}|(?:copy|repair) {NAME} {NAME}|join {NAME} {NAME}(?: {N})+)"
    f"|undo|promise (?:safe|able)|(?:lift|keepers) {N}|share {NAME}|hosts|safe|able|calm|plan")
ERRORS = (errors.BadValue, errors.BadName, errors.NoAnswer)
LINES = (
    "do join d r2 0", "do join d r2 0 4 7", "do join e r9 1", "do leave a", "do leave d", "do settle", "do copy d a",
    "do copy d b", "do copy d c", "do copy a b", "do down a", "do down d", "do up a", "do up d", "do wipe b", "do wipe zz",
    "do repair a b", "do repair b c", "undo", "undo", "promise safe", "promise able", "lift 0", "lift 1", "keepers 0",
    "keepers 10", "keepers 11", "keepers 12", "share a", "share d", "share zz", "hosts", "safe", "able", "calm", "plan",
)


def step_in(row):
    """Returns the step that a row tells, which matches the pattern of lines."""
    words = row.split(" ")
    return tuple(words[:3]) + (tuple(int(word) for word in words[3:]),) if words[0] == "join" else tuple(words)


def told_by(desk, line):
    """Returns the answer to a line, by calls at the desk and of functions."""
    word, _, rest = line.partition(" ")
    plan, ring = desk.plan, desk.ring
    if word in ("do", "undo", "promise", "lift"):
        match word:
            case "do":
                desk.do(step_in(rest))
            case "undo":
                desk.undo()
            case "promise":
                desk.promise((rest,))
            case "lift":
                desk.lift(int(rest))
        return "ok"
    if word == "plan":
        return " / ".join(str(plan).split("\n")[len(plan.ring) + 2:]) if plan.steps else "none"
    if word in ("safe", "able", "calm"):
        told = {"safe": is_safe(plan), "able": is_able(plan), "calm": plan.coming(len(plan)) is None}
        return "yes" if told[word] else "no"
    if word == "keepers":
        return " ".join(ring.keepers(int(rest)))
    return str(kept(ring, rest)) if word == "share" else " ".join(sorted(ring.names))


def plain_answer(desk, line):
    """Returns the answer to a line: what it asks for, or the name of the class of what is raised."""
    try:
        return told_by(desk, line)
    except ERRORS as error:
        return error.__class__.__name__


class Said(unittest.TestCase):
    def test_the_example_of_the_document(self):
        console = Console(plain_ring())
        first = ["do join d r2 0", "calm", "keepers 10", "do settle", "keepers 10", "safe"]
        self.assertEqual([console.say(line) for line in first], ["ok", "no", "a b", "ok", "d a", "no"])
        second = ["undo", "promise safe", "do settle", "share d", "keepers 12", "plan"]
        self.assertEqual([console.say(line) for line in second],
                         ["ok", "ok", "Broken", "UnknownName", "InvalidPoint", "join d r2 0"])
        assert_raises_with(self, InvalidText, "given", "do  settle", console.say, "do  settle")

    def test_mixed_lines_against_calls_at_a_desk(self):
        numbers = Numbers(21)
        seen = set()
        for k in range(30):
            ring = (plain_ring(), Ring.read(APART_TEXT), plain_ring().ruled(1, 1, "plain"))[k % 3]
            console, desk = Console(ring), Desk(ring)
            for at in range(60):
                line = LINES[numbers.below(len(LINES))]
                told = plain_answer(desk, line)
                self.assertEqual(console.say(line=line) if at % 2 else console.say(line), told)
                self.assertEqual(shown(console.desk), shown(desk))
                self.assertEqual(console.desk.plan, desk.plan)
                seen.add((line.split(" ")[0], told if told[0].isupper() or told in ("ok", "yes", "no", "none") else "told"))
        self.assertEqual(seen, {
            ("do", "ok"), ("do", "InvalidStep"), ("do", "Broken"), ("undo", "ok"), ("undo", "NothingToUndo"),
            ("promise", "ok"), ("promise", "Broken"), ("lift", "ok"), ("lift", "InvalidIndex"), ("keepers", "told"),
            ("keepers", "InvalidPoint"), ("share", "told"), ("share", "UnknownName"), ("hosts", "told"), ("safe", "yes"),
            ("safe", "no"), ("able", "yes"), ("able", "no"), ("calm", "yes"), ("calm", "no"), ("plan", "told"), ("plan", "none"),
        })

    def test_each_kind_of_step(self):
        console = Console(plain_ring())
        rows = ("join d r2 0 4", "copy d a", "wipe d", "down b", "up b", "settle", "repair a b", "leave c", "settle")
        for row in rows:
            self.assertEqual(console.say("do " + row), "ok")
        self.assertEqual(console.say("plan"), " / ".join(rows))
        self.assertEqual(console.desk.plan.steps[0], ("join", "d", "r2", (0, 4)))
        self.assertEqual(console.say("hosts"), "a b d")
        for row in rows:
            console.say("undo")
        self.assertEqual([console.say(line) for line in ("plan", "hosts", "undo")], ["none", "a b c", "NothingToUndo"])

    def test_by_the_ring_that_counts_at_the_end(self):
        console = Console(plain_ring())
        lines = ("keepers 10", "share b", "hosts", "share d")
        before = ["a b", "8", "a b c", "UnknownName"]
        self.assertEqual([console.say(line) for line in lines], before)
        console.say("do join d r2 0")
        self.assertEqual([console.say(line) for line in lines], before)
        console.say("do settle")
        self.assertEqual([console.say(line) for line in lines], ["d a", "5", "a b c d", "7"])
        console.say("do down b")
        self.assertEqual(console.say("hosts"), "a b c d")

    def test_hosts_ascending_and_keepers_in_their_order(self):
        ring = Ring(MOST, 3, "hosts", 1, 1, "plain", (("z", "r", (5,)), ("b", "r", (7,)), ("m1", "r", (6,)), ("m", "r", (9,))))
        console = Console(ring)
        self.assertEqual([console.say(line) for line in ("hosts", "keepers 0", "keepers 999999999999999999", "share z")],
                         ["b m m1 z", "z m1 b", "z m1 b", str(MOST - 1)])

    def test_deeds_at_the_desk_directly(self):
        console = Console(plain_ring())
        desk = console.desk
        desk.do(JOIN)
        desk.promise(("racks", 1))
        self.assertEqual([console.say("plan"), console.say("calm")], ["join d r2 0", "no"])
        self.assertEqual(console.say("lift 0"), "ok")
        self.assertEqual((desk.promises, desk.changes), ((), 3))
        self.assertEqual([console.say("undo") for _ in range(4)], ["ok", "ok", "ok", "NothingToUndo"])
        self.assertIs(console.desk, desk)
        with desk.trial():
            console.say("do join d r2 0")
        self.assertEqual(console.say("plan"), "join d r2 0")
        self.assertRaises(ZeroDivisionError, desk.tried, lambda same: console.say("do settle") and 1 // 0)
        self.assertEqual(console.say("plan"), "join d r2 0")
        self.assertEqual(console.say("do settle"), "ok")
        desk.promise(("calm",))
        self.assertEqual(console.say("do leave a"), "Broken")

    def test_names_like_words(self):
        console = Console(word_ring())
        for line, told in (("do wipe wipe", "ok"), ("do down settle", "ok"), ("do copy copy wipe", "InvalidStep"),
                           ("do leave copy", "ok"), ("do copy repair copy", "ok"), ("do settle", "ok"), ("share copy", "UnknownName"),
                           ("hosts", "repair settle wipe"), ("do join do plan 0", "ok"), ("share do", "UnknownName")):
            self.assertEqual(console.say(line), told, line)

    def test_twenty_four_steps(self):
        console = Console(plain_ring())
        self.assertEqual([console.say("do wipe a") for _ in range(25)], ["ok"] * 24 + ["InvalidStep"])
        self.assertEqual(console.say("plan"), " / ".join(["wipe a"] * 24))

    def test_what_is_no_ring(self):
        for value in NO_RINGS + (Desk(plain_ring()), Console(plain_ring())):
            assert_raises_with(self, NotARing, "given", value, Console, value)
            assert_raises_with(self, NotARing, "given", value, Console, ring=value)
        self.assertEqual(Console(ring=plain_ring()).say("plan"), "none")

    def test_equal_to_itself_alone(self):
        one, other = Console(plain_ring()), Console(plain_ring())
        for value in NO_NAMES + (other, one.desk, plain_ring(), EqualToAll(), Console):
            self.assertIs(one == value, False)
            self.assertIs(one != value, True)
        self.assertEqual([one == one, one != one, bool(one)], [True, False, True])


class NoLines(unittest.TestCase):
    def console(self):
        console = Console(plain_ring())
        for line in ("promise able", "do join d r2 0", "promise safe", "do copy d a"):
            console.say(line)
        return console

    def assert_none(self, console, value):
        before = shown(console.desk)
        assert_raises_with(self, InvalidText, "given", value, console.say, value)
        assert_raises_with(self, InvalidText, "given", value, console.say, line=value)
        self.assertEqual(shown(console.desk), before)

    def assert_judged(self, line):
        """Holds that a line is answered with a string just if it matches the pattern of lines."""
        if LINE.fullmatch(line):
            self.assertIsInstance(Console(plain_ring()).say(line), str)
        else:
            self.assert_none(Console(plain_ring()), line)

    def test_values_of_any_kind(self):
        console = self.console()
        for value in ODD_VALUES + NO_NAMES + NAMES + (
                ("undo",), ["undo"], b"undo", ("do", "settle"), SETTLE, JOIN, 0, 12, PLAIN_TEXT, Plan(plain_ring()),
                "x" * 8000, " " * 8000, "\n" * 8000, "do " * 2000, "1" * 5000):
            self.assert_none(console, value)

    def test_lines_bent_by_signs(self):
        for line in sorted(set(line.split(" ")[0] for line in LINES) | set(LINES)):
            for bent in bent_by_signs(line, " \n\t-+_01aAz/~"):
                self.assert_judged(bent)

    def test_lines_bent_by_words(self):
        words = ("", "a", "zz", "A", "0", "00", "01", "-1", "+1", "1_0", "1.0", "settle", "safe", "calm", "do", "undo", "plan")
        for line in LINES[::2] + ("do settle", "promise able", "undo", "hosts", "keepers 11"):
            for bent in bent_by_words(line, words):
                self.assert_judged(bent)

    def test_blanks_and_capitals(self):
        console = self.console()
        for line in LINES:
            for bent in (" " + line, line + " ", line + "\n", "\n" + line, line.upper(), line.title(), line + "\t", line + "  ",
                         line.replace(" ", "  ", 1) + " " * (" " not in line), line + " a" * 3 if "join" not in line else line + " a"):
                self.assert_none(console, bent)

    def test_words_too_many_or_too_few(self):
        console = self.console()
        for line in (
            "do", "do ", "do join", "do join d", "do join d r2", "do join d r2 ", "do join d 0", "do leave", "do leave a b",
            "do settle a", "do copy d", "do copy d a b", "do copy", "do repair a", "do down", "do up a b", "do wipe", "undo 1",
            "undo undo", "do undo", "do plan", "do do settle", "promise", "promise safe able", "promise calm", "promise racks 1",
            "promise like", "lift", "lift 0 1", "lift a", "keepers", "keepers a", "keepers 0 1", "share", "share a b", "share 0",
            "hosts a", "safe safe", "able 1", "calm calm", "plan 1", "none", "ok", "yes", "help", "settle", "join d r2 0", "",
        ):
            self.assert_none(console, line)

    def test_integers(self):
        console = self.console()
        for word in ("keepers", "lift", "do join e r1"):
            for number in ("0", "7", "11", "12", "1" * 18, "9" * 19, "1" + "0" * 18):
                self.assertIsInstance(console.say(f"{word} {number}"), str)
            for number in ("00", "01", "-1", "-0", "+1", "1" * 20, "9" * 40, "1" + "0" * 19, "1.0", "1e3", "0x1", "1_0", "1 ",
                           " 1", "\u0661", "\u00b2", "a", "1a", "1" * 5000):
                self.assert_none(console, f"{word} {number}")
        self.assertEqual(console.say("keepers " + "9" * 19), "InvalidPoint")
        self.assertEqual(console.say("lift " + "9" * 19), "InvalidIndex")
        self.assertEqual(console.say("do join e r1 " + "9" * 19), "InvalidStep")

    def test_names(self):
        console = self.console()
        for name in NAMES + ("a", "b", "d"):
            for line in (f"share {name}", f"do down {name}", f"do join {name} {name} 1", f"do copy {name} {name}"):
                answer = console.say(line)
                self.assertIsInstance(answer, str)
                if answer == "ok":
                    console.say("undo")
        for value in NO_NAMES:
            if isinstance(value, str):
                for line in (f"share {value}", f"do leave {value}", f"do copy a {value}", f"do copy {value} a",
                             f"do repair {value} a", f"do join {value} r 1", f"do join e {value} 1"):
                    self.assert_none(console, line)

    def test_joins_that_do_not_fit_are_lines(self):
        console = Console(plain_ring())
        for marks in ("0 0", "4 0", "12", "2", "0 1 3 4 6 7 8 10 11 12 13 14 15 16 17 18 19", " ".join(map(str, range(900)))):
            self.assertEqual(console.say("do join d r2 " + marks), "InvalidStep")
        self.assertEqual(console.say("do join a r2 0"), "InvalidStep")
        self.assertEqual(console.desk.changes, 0)

    def test_each_line_is_answered_with_a_string(self):
        for line in LINES:
            self.assertTrue(LINE.fullmatch(line))
            for console in (self.console(), Console(plain_ring())):
                self.assertIsInstance(console.say(line), str)


if __name__ == "__main__":
    unittest.main()
