"""The errors that the program raises, under three base classes."""


class BadValue(ValueError):
    """A value is not what the call takes."""


class InvalidText(BadValue):
    """This is not the text of such an object."""

    def __init__(self, given):
        self.given = given


class InvalidNumber(BadValue):
    """This is no integer within the bounds."""

    def __init__(self, given):
        self.given = given


class InvalidSpread(BadValue):
    """This is no spread."""

    def __init__(self, given):
        self.given = given


class InvalidPending(BadValue):
    """This is no way to treat pendings."""

    def __init__(self, given):
        self.given = given


class InvalidPoint(BadValue):
    """This is no point of the ring."""

    def __init__(self, given):
        self.given = given


class InvalidName(BadValue):
    """This is no name that can be given here."""

    def __init__(self, given):
        self.given = given


class InvalidMarks(BadValue):
    """These are no marks that a host can have here."""

    def __init__(self, given):
        self.given = given


class InvalidStep(BadValue):
    """This step does not fit."""

    def __init__(self, given):
        self.given = given


class InvalidMoment(BadValue):
    """This is no moment of the plan."""

    def __init__(self, given):
        self.given = given


class InvalidTakers(BadValue):
    """These are no takers of a write."""

    def __init__(self, given):
        self.given = given


class InvalidKind(BadValue):
    """This is no kind of falls."""

    def __init__(self, given):
        self.given = given


class InvalidWish(BadValue):
    """This is no wish that can be made here."""

    def __init__(self, given):
        self.given = given


class InvalidIndex(BadValue):
    """This is no index of what is kept here."""

    def __init__(self, given):
        self.given = given


class NotARing(BadValue):
    """This is no Ring."""

    def __init__(self, given):
        self.given = given


class NotAPlan(BadValue):
    """This is no Plan."""

    def __init__(self, given):
        self.given = given


class OtherPoints(BadValue):
    """This second ring has another number of points."""

    def __init__(self, given):
        self.given = given


class InvalidHosts(BadValue):
    """The host with this index is not right; None: there are no hosts."""

    def __init__(self, index):
        self.index = index


class InvalidSteps(BadValue):
    """The step with this index does not fit; None: there is no tuple."""

    def __init__(self, index):
        self.index = index


class InvalidFurther(BadValue):
    """The further step with this index is not right; None: there is no tuple."""

    def __init__(self, index):
        self.index = index


class InvalidWishes(BadValue):
    """The wish with this index is not right; None: there is no tuple."""

    def __init__(self, index):
        self.index = index


class BadName(LookupError):
    """A name does not stand for what the call asks for."""


class UnknownName(BadName):
    """Nothing has this name."""

    def __init__(self, given):
        self.given = given


class InUse(BadName):
    """The wish with this index needs what has the name."""

    def __init__(self, index):
        self.index = index


class NoAnswer(ArithmeticError):
    """The call has right values, but it cannot be done."""


class NothingToUndo(NoAnswer):
    """No change can be taken back."""


class NoRoom(NoAnswer):
    """There would be more, or fewer, than there can be."""

    def __init__(self, given):
        self.given = given


class Broken(NoAnswer):
    """The promise or wish with this index would not hold."""

    def __init__(self, index):
        self.index = index
