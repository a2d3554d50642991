"""Rings: points, the hosts with their marks, and who keeps a key."""

from ringshares.basics import is_ascending, is_from_to, is_name, is_word_of, written_number
from ringshares.errors import (
    BadValue,
    InvalidHosts,
    InvalidMarks,
    InvalidName,
    InvalidNumber,
    InvalidPending,
    InvalidPoint,
    InvalidSpread,
    InvalidText,
    NoRoom,
    NotARing,
    OtherPoints,
    UnknownName,
)
from ringshares.limits import MOST_FACTOR, MOST_HOSTS, MOST_MARKS, MOST_POINTS

SPREADS = ("hosts", "racks")
PENDINGS = ("plain", "with")


def are_free_marks(value, points, hosts):
    """Tells whether value is a row of marks that a host beside these hosts can have."""
    if not isinstance(value, tuple) or not 1 <= len(value) <= MOST_MARKS:
        return False
    if not all([is_from_to(mark, 0, points - 1) for mark in value]) or not is_ascending(value):
        return False
    return not any([mark in host[2] for host in hosts for mark in value])


def is_free_name(value, hosts):
    """Tells whether value is a name that none of these hosts has."""
    return is_name(value) and not any([value == host[0] for host in hosts])


def is_next_host(value, points, hosts):
    """Tells whether value is a host that can stand behind these hosts."""
    if not isinstance(value, tuple) or len(value) != 3:
        return False
    name, rack, marks = value
    return is_free_name(name, hosts) and is_name(rack) and are_free_marks(marks, points, hosts)


def check_hosts(points, hosts):
    """Raises InvalidHosts if these are no hosts of a ring with so many points."""
    if not isinstance(hosts, tuple) or len(hosts) == 0:
        raise InvalidHosts(None)
    for index, host in enumerate(hosts):
        if index == MOST_HOSTS or not is_next_host(host, points, hosts[:index]):
            raise InvalidHosts(index)


def check_point(ring, point):
    """Raises InvalidPoint if this is no key of the ring."""
    if not is_from_to(point, 0, ring.points - 1):
        raise InvalidPoint(point)


def check_name(ring, name):
    """Raises UnknownName if no host of the ring has this name."""
    if name not in ring:
        raise UnknownName(name)


def new_racks_first(ring, walk):
    """Returns the names of a walk, first those whose rack none ahead of them has."""
    rack_of = {name: rack for name, rack, _ in ring.hosts}
    racks = []
    firsts = []
    others = []
    for name in walk:
        rack = rack_of[name]
        if rack in racks:
            others.append(name)
        else:
            racks.append(rack)
            firsts.append(name)
    return tuple(firsts + others)


def keepers_in(ring, walk):
    """Returns the names of the keepers of a key of the ring with this walk, in their order."""
    names = new_racks_first(ring, walk) if ring.spread == "racks" else walk
    return names[:ring.factor]


def host_row(host):
    """Returns the row of a text that writes this host."""
    name, rack, marks = host
    return " ".join(["host", name, rack] + [str(mark) for mark in marks])


def written_host(row):
    """Returns the host that a row of a text writes, None if it has not this form."""
    words = row.split(" ")
    if words[0] != "host" or len(words) < 4:
        return None
    return (words[1], words[2], tuple([written_number(word) for word in words[3:]]))


class Ring:
    """A ring with its rules and its hosts; it never changes."""

    def __init__(self, points, factor, spread, write, read, pending, hosts):
        if not is_from_to(points, 1, MOST_POINTS):
            raise InvalidNumber(points)
        if not is_from_to(factor, 1, MOST_FACTOR):
            raise InvalidNumber(factor)
        if not is_word_of(spread, SPREADS):
            raise InvalidSpread(spread)
        if not is_from_to(write, 1, factor):
            raise InvalidNumber(write)
        if not is_from_to(read, 1, factor):
            raise InvalidNumber(read)
        if not is_word_of(pending, PENDINGS):
            raise InvalidPending(pending)
        check_hosts(points, hosts)
        self._points = points
        self._factor = factor
        self._spread = spread
        self._write = write
        self._read_number = read
        self._pending = pending
        self._hosts = hosts

    @classmethod
    def read(cls, text):
        """Returns the ring with this text."""
        if not isinstance(text, str):
            raise InvalidText(text)
        rows = text.split("\n")
        words = rows[0].split(" ")
        if words[0] != "ring" or len(words) != 7:
            raise InvalidText(text)
        points, factor, write, read = [written_number(words[k]) for k in (1, 2, 4, 5)]
        hosts = tuple([written_host(row) for row in rows[1:]])
        # A word that writes no number and a row that writes no host are None here,
        # which no ring takes.
        try:
            return cls(points, factor, words[3], write, read, words[6], hosts)
        except BadValue:
            raise InvalidText(text) from None

    @property
    def points(self):
        """How many points there are."""
        return self._points

    @property
    def factor(self):
        """How many keepers a key has if there are hosts enough."""
        return self._factor

    @property
    def spread(self):
        """What the keepers of a key are spread over."""
        return self._spread

    @property
    def write(self):
        """How many have to take a write."""
        return self._write

    @property
    def read_number(self):
        """How many answer a read."""
        return self._read_number

    @property
    def pending(self):
        """Whether pendings take writes."""
        return self._pending

    @property
    def hosts(self):
        """The hosts as they were passed."""
        return self._hosts

    @property
    def names(self):
        """The names of the hosts, ascending."""
        return tuple(sorted([host[0] for host in self._hosts]))

    def __len__(self):
        return len(self._hosts)

    def __getitem__(self, at):
        for name, rack, marks in self._hosts:
            # Nothing but a string is compared: other values tell by themselves what they equal.
            if isinstance(at, str) and at == name:
                return (rack, marks)
        raise UnknownName(at)

    def __iter__(self):
        raise TypeError("a ring is not iterated over")

    def __contains__(self, x):
        return is_word_of(x, self.names)

    def __str__(self):
        return "\n".join([self._first_row()] + [host_row(host) for host in self._hosts])

    def __eq__(self, other):
        return (
            isinstance(other, Ring)
            and self._points == other._points
            and self._factor == other._factor
            and self._spread == other._spread
            and self._write == other._write
            and self._read_number == other._read_number
            and self._pending == other._pending
            and self._hosts == other._hosts
        )

    def walk(self, point):
        """Returns the names of all hosts as the walk of this key meets them."""
        check_point(self, point)
        met = sorted([(self._way(point, host[2]), host[0]) for host in self._hosts])
        return tuple([name for _, name in met])

    def keepers(self, point):
        """Returns the names of the keepers of this key, in their order."""
        return keepers_in(self, self.walk(point))

    def joined(self, name, rack, marks):
        """Returns the ring with this host behind the others."""
        if not is_free_name(name, self._hosts):
            raise InvalidName(name)
        if not is_name(rack):
            raise InvalidName(rack)
        if not are_free_marks(marks, self._points, self._hosts):
            raise InvalidMarks(marks)
        if len(self._hosts) == MOST_HOSTS:
            raise NoRoom(name)
        return self._with_hosts(self._hosts + ((name, rack, marks),))

    def left(self, name):
        """Returns the ring without this host."""
        check_name(self, name)
        if len(self._hosts) == 1:
            raise NoRoom(name)
        return self._with_hosts(tuple([host for host in self._hosts if host[0] != name]))

    def ruled(self, write, read, pending):
        """Returns the ring with these numbers for writes and reads, and this pending."""
        return Ring(self._points, self._factor, self._spread, write, read, pending, self._hosts)

    def _first_row(self):
        rules = f"{self._factor} {self._spread} {self._write} {self._read_number} {self._pending}"
        return f"ring {self._points} {rules}"

    def _way(self, point, marks):
        # How far a walk from the point goes until it meets the first of the marks.
        return min([(mark - point) % self._points for mark in marks])

    def _with_hosts(self, hosts):
        read = self._read_number
        return Ring(self._points, self._factor, self._spread, self._write, read, self._pending, hosts)


def check_ring(ring):
    """Raises NotARing if this is no ring."""
    if not isinstance(ring, Ring):
        raise NotARing(ring)


def check_rings(one, other):
    """Raises NotARing for the first that is no ring, OtherPoints if their points are not as many."""
    check_ring(one)
    check_ring(other)
    if one.points != other.points:
        raise OtherPoints(other)
