"""What several tests need: fixed rows of rings, odd values, and plain walks to hold against."""

import re

from ringshares.errors import InvalidText
from ringshares.rings import Ring

PLAIN_HOSTS = (("a", "r1", (2,)), ("b", "r1", (5,)), ("c", "r2", (9,)))
PLAIN_TEXT = "ring 12 2 hosts 1 2 with\nhost a r1 2\nhost b r1 5\nhost c r2 9"
APART_TEXT = PLAIN_TEXT.replace("hosts", "racks")


class Other:
    """Some value of a class that the program does not know."""


class EqualToAll:
    """A value that takes itself for equal to everything."""

    def __eq__(self, other):
        return True

    def __ne__(self, other):
        return False


# None of these is an integer, a string that means anything, or a tuple that is right anywhere.
ODD_VALUES = (
    None, True, False, "", " ", "?", b"", b"a", b"hosts", [], [0], [1], ["a"], (), (None,), ((),), ([],),
    (True,), ("1",), {}, {"a": 1}, {1}, frozenset(["a"]), range(1), int, str, Ring, len, Other, Other(),
    EqualToAll(), slice(0, 1), ["hosts"], ("with",), [("a", "r1", (2,))], Ring.read(PLAIN_TEXT),
)

# None of these is a name.
NO_NAMES = ODD_VALUES + (
    "A", "aB", "Ab", "1", "1a", "9", "a-", "a_b", "_a", "a b", " a", "a ", "a\n", "\na", "a\t", "a.b",
    "abcdefghi", "a12345678", "z" * 9, "a" * 100, "\u00e4", "a\u00e4", "a\u0661", "\u0661", "a\u00b2",
    "\u03b1", "a\u03b1", "\uff41", "a\uff11", "`", "a`", "{", "a{", "a/", "a:", "a\x00", 0, 1, 7, ("a",),
)

# All of these are names.
NAMES = ("a", "z", "m", "a0", "z9", "ab", "a1b2c3d4", "abcdefgh", "zzzzzzzz", "z9999999", "host", "ring", "none")


def plain_ring():
    """Returns the first ring of the document's examples."""
    return Ring(12, 2, "hosts", 1, 2, "with", PLAIN_HOSTS)


def full_hosts():
    """Returns twelve hosts with one mark each: h0 at 0, h1 at 10, .. h11 at 110."""
    return tuple((f"h{k}", f"r{k % 3}", (10 * k,)) for k in range(12))


def assert_raises_with(case, error, attribute, value, call, *given, **named):
    """Holds that the call raises just this error, with this very value."""
    with case.assertRaises(error) as caught:
        call(*given, **named)
    case.assertIs(caught.exception.__class__, error)
    case.assertIs(getattr(caught.exception, attribute), value)


class Judged:
    """What the tests of texts share: the texts of a class of objects, and all others.

    A class of tests sets `of`, the class of objects, and `is_text`, which tells what their texts are.
    """

    def assert_no_text(self, value):
        assert_raises_with(self, InvalidText, "given", value, self.of.read, value)
        assert_raises_with(self, InvalidText, "given", value, self.of.read, text=value)

    def assert_judged(self, text):
        """Holds that just the texts of such objects are read."""
        if self.is_text(text):
            self.assertEqual(str(self.of.read(text)), text)
        else:
            self.assert_no_text(text)


def bent_by_signs(text, signs):
    """Returns the texts with a sign too many, too few or otherwise, and those that are cut."""
    bent = []
    for k in range(len(text) + 1):
        bent += [text[:k] + text[k + 1:], text[:k]]
        for sign in signs:
            bent += [text[:k] + sign + text[k:], text[:k] + sign + text[k + 1:]]
    return bent


def bent_by_words(text, words, first=0):
    """Returns the texts with a word too many, too few or otherwise in a row from the first one on."""
    bent = []
    rows = text.split("\n")
    for at in range(first, len(rows)):
        parts = rows[at].split(" ")
        for k in range(len(parts) + 1):
            others = [parts[:k] + parts[k + 1:]]
            others += [parts[:k] + [word] + parts[k:] for word in words]
            others += [parts[:k] + [word] + parts[k + 1:] for word in words]
            bent += ["\n".join(rows[:at] + [" ".join(other)] + rows[at + 1:]) for other in others]
    return bent


def bent_by_rows(text, more):
    """Returns the texts with a row too many, too few or otherwise."""
    bent = []
    rows = text.split("\n")
    for k in range(len(rows) + 1):
        others = [rows[:k] + rows[k + 1:]]
        others += [rows[:k] + [row] + rows[k:] for row in more]
        others += [rows[:k] + [row] + rows[k + 1:] for row in more]
        bent += ["\n".join(other) for other in others]
    return bent


class Numbers:
    """A row of numbers that look mixed and are the same in each run."""

    def __init__(self, first):
        self.state = first

    def below(self, many):
        self.state = (self.state * 6364136223846793005 + 1442695040888963407) % 2 ** 64
        return (self.state >> 33) % many

    def chosen(self, row, many):
        rest = list(row)
        return [rest.pop(self.below(len(rest))) for _ in range(many)]


def mixed_hosts(numbers, points, many, most_marks, racks):
    """Returns so many hosts with up to most_marks marks each, in so many racks."""
    free = numbers.chosen(range(points), points)
    counts = [1] * many
    for _ in range(numbers.below(points - many + 1)):
        k = numbers.below(many)
        counts[k] = min(counts[k] + 1, most_marks)
    hosts = []
    for k in numbers.chosen(range(many), many):
        marks = tuple(sorted(free.pop() for _ in range(counts[k])))
        hosts.append((f"h{k}", f"r{numbers.below(racks)}", marks))
    return tuple(hosts)


def mixed_rings():
    """Returns small rings: each spread, each factor, each number of hosts."""
    numbers = Numbers(2026)
    rings = []
    for many in range(1, 13):
        for factor in range(1, 6):
            for spread in ("hosts", "racks"):
                points = many + numbers.below(20)
                hosts = mixed_hosts(numbers, points, many, 1 + numbers.below(16), 1 + numbers.below(6))
                rings.append(Ring(points, factor, spread, 1, factor, "plain", hosts))
    full = mixed_hosts(numbers, 230, 12, 16, 5)
    rings.append(Ring(230, 5, "racks", 3, 3, "with", full))
    return rings


def plain_walk(ring, key):
    """Returns the walk of a key, found by going from point to point once round the ring."""
    met = []
    for k in range(ring.points):
        point = (key + k) % ring.points
        for name, _, marks in ring.hosts:
            if point in marks and name not in met:
                met.append(name)
    return tuple(met)


def plain_keepers(ring, key):
    """Returns the keepers of a key, chosen from the plain walk one by one as [7] tells."""
    met = list(plain_walk(ring, key))
    if ring.spread == "hosts":
        return tuple(met[:ring.factor])
    racks = {name: rack for name, rack, _ in ring.hosts}
    kept = []
    for k, name in enumerate(met):
        if len(kept) < ring.factor and racks[name] not in [racks[early] for early in met[:k]]:
            kept.append(name)
    for name in met:
        if len(kept) < ring.factor and name not in kept:
            kept.append(name)
    return tuple(kept)


NUMBER = "(0|[1-9][0-9]*)"
NAME = "[a-z][a-z0-9]{0,7}"
FIRST_ROW = re.compile(f"ring {NUMBER} {NUMBER} (hosts|racks) {NUMBER} {NUMBER} (plain|with)")
HOST_ROW = re.compile(f"host ({NAME}) {NAME}((?: {NUMBER})+)")


def is_ring_text(text):
    """Tells whether text is the text of a ring, by patterns and bounds alone."""
    first, *rows = text.split("\n")
    head = FIRST_ROW.fullmatch(first)
    found = [HOST_ROW.fullmatch(row) for row in rows]
    if not head or not all(found) or not 1 <= len(found) <= 12:
        return False
    points, factor, write, read = (int(head[k]) for k in (1, 2, 4, 5))
    rows_of_marks = [[int(word) for word in row[2].split()] for row in found]
    marks = [mark for row in rows_of_marks for mark in row]
    return (
        1 <= points <= 10 ** 18 and 1 <= factor <= 5 and 1 <= write <= factor and 1 <= read <= factor
        and len({row[1] for row in found}) == len(found)
        and len(set(marks)) == len(marks) and max(marks) < points
        and all(row == sorted(row) and len(row) <= 16 for row in rows_of_marks)
    )
