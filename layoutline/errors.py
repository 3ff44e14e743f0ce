"""The errors of the package."""


class LineError(ValueError):
    """Base of all errors; why says in a word what is wrong."""

    def __init__(self, why):
        self.why = why


class BadName(LineError):
    """A value is not a name."""

    def __init__(self, name):
        LineError.__init__(self, "name")
        self.name = name


class BadValue(LineError):
    """A value is not what may stand in a cell, a room or a class."""

    def __init__(self):
        LineError.__init__(self, "value")


class BadList(LineError):
    """An argument is not of the kind that it must be; why tells which one."""


class BadOffset(LineError):
    """A layout has no such offset."""

    def __init__(self, offset):
        LineError.__init__(self, "offset")
        self.offset = offset


class NoClass(LineError):
    """A value is not the number of a class."""

    def __init__(self, number):
        LineError.__init__(self, "class")
        self.number = number


class NoObject(LineError):
    """A value is not the number of a living object."""

    def __init__(self, number):
        LineError.__init__(self, "object")
        self.number = number


class Duplicate(LineError):
    """A thing stands a second time where it may stand only once."""

    def __init__(self, thing):
        LineError.__init__(self, "duplicate")
        self.thing = thing


class TooMany(LineError):
    """There are more things than the limit allows."""

    def __init__(self, limit):
        LineError.__init__(self, "too many")
        self.limit = limit


class BelowItself(LineError):
    """A class would be below itself by this base."""

    def __init__(self, base):
        LineError.__init__(self, "below")
        self.base = base


class Collision(LineError):
    """The owners of the bases of a class lie on no line."""

    def __init__(self, number, owners, offset, names):
        LineError.__init__(self, "line")
        self.number = number
        self.owners = owners
        self.offset = offset
        self.names = names


class NoOrder(LineError):
    """A class has no linear order; the ring shows why."""

    def __init__(self, number, ring):
        LineError.__init__(self, "order")
        self.number = number
        self.ring = ring


class HasRoom(LineError):
    """A class declares the room that a base has already."""

    def __init__(self, number, base):
        LineError.__init__(self, "room")
        self.number = number
        self.base = base


class LayoutMoves(LineError):
    """The layout of a class with living objects would change."""

    def __init__(self, number, offset):
        LineError.__init__(self, "layout")
        self.number = number
        self.offset = offset


class OtherLayout(LineError):
    """The new class of an object has another layout than the old one."""

    def __init__(self, offset):
        LineError.__init__(self, "other layout")
        self.offset = offset


class NotSet(LineError):
    """The cell of a field is unset."""

    def __init__(self, name):
        LineError.__init__(self, "not set")
        self.name = name


class NoName(LineError):
    """Nothing is found by a name."""

    def __init__(self, name):
        LineError.__init__(self, "no such name")
        self.name = name


class BadStep(LineError):
    """A run has a step that is none."""

    def __init__(self, at):
        LineError.__init__(self, "step")
        self.at = at
