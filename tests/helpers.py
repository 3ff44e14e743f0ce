"""What several tests use."""

import unittest

from layoutline.errors import BadList, Collision, Duplicate, NoClass, NoOrder, TooMany
from layoutline.orders import merge, shows_merge
from layoutline.worlds import World

# The letters at the end look like a to z, or stand right beside them, and are none of them.
NOT_NAMES = [
    "", "A", "aB", "abcdefghi", "a b", " a", "a ", "a\n", "\n", "a1", "1", "_", "a_b", "-", "a.b", "\u00e4", "\u00df",
    "\u0430", "\uff41", "\u00aa", "a\u0301", "`", "{", "a`", "z{", "\x00",
]

# Wrong bases in the order in which their errors are stated, each with faults stated later; 6 must be a class.
WRONG_BASES = [
    ((0, "no list"), BadList, {"why": "bases"}),
    ([], BadList, {"why": "bases"}),
    ([1, 1, 26, 27, 2, 3, 4], NoClass, {"number": 26}),
    ([1, 2, 3, 4, 5, 2, 1], Duplicate, {"thing": 2}),
    ([1, 2, 3, 4, 5, 6], TooMany, {"limit": 5}),
]


class EqualToAll:
    """Calls itself equal to everything; cannot be hashed."""

    def __eq__(self, other):
        return True

    __hash__ = None


class Incomparable:
    """Must not be compared or hashed."""

    def __eq__(self, other):
        raise AssertionError("compared")

    def __hash__(self):
        raise AssertionError("hashed")


def odd_values():
    """Return values that are neither lists nor names nor integers nor bools."""
    return [
        None, (), ("a",), ((1, 2),), {}, {"a": 1}, {1}, b"a", bytearray(b"a"), 1j, slice(0, 1), range(2), len, int,
        object(), EqualToAll(), Incomparable(), iter([1]),
    ]


def not_names():
    """Return values of all kinds that are no names."""
    return [*odd_values(), *NOT_NAMES, 0, 7, True, [], ["a"], [["a"]]]


def not_numbers(*more):
    """Return values of all kinds that are no numbers of classes or objects, with some more."""
    return [*odd_values(), True, False, "", "0", "a", [], [0], [[]], (0,), -1, -2, 10 ** 30, -10 ** 30, *more]


def nested(depth):
    """Return a tuple that is nested so deep."""
    value = ()
    for _ in range(depth - 1):
        value = (value,)
    return value


def values():
    """Return values of all kinds."""
    return [
        0, 1, -1, 10 ** 40, -10 ** 40, "", "a", "No name!", "\u00e4\n", "abcdefghi", (), (1,), ("a", -1), ((), ()),
        nested(2), nested(3), nested(4), (1, (2, (3, (4, "x")))), (nested(3), 5, nested(3)), tuple(range(100)),
    ]


def not_values():
    """Return values of all kinds that may not stand in a cell, a room or a class."""
    flat = [None, True, False, [], [1], {}, {1}, b"", b"a", 1j, len, object(), EqualToAll(), Incomparable(), iter("a")]
    deep = [nested(5), nested(6), nested(300), (1, (2, (3, (4, (5,))))), (0, nested(3), nested(4))]
    inside = [(thing,) for thing in flat] + [(1, (2, (3, (4, thing)))) for thing in flat]
    return [*flat, *inside, *deep]


def chain(world, many):
    """Make so many more classes, each with the last one as its only base."""
    for _ in range(many):
        world.make_class([world.count() - 1], [])


def world_of_lines():
    """Return a world with three lines: 0 1 2, 0 1 3 6 and 0 8; 4, 5 and 7 own nothing."""
    world = World()
    for bases, fields in [
        ([0], ["a"]), ([1], ["b"]), ([1], ["c", "d"]), ([3], []), ([2], []), ([3], ["e"]), ([0], []), ([0], ["a"]),
    ]:
        world.make_class(bases, fields)
    return world


def picture_of_world(world):
    """Return by class all that the world itself tells of it."""
    rows = []
    for number in range(world.count()):
        layout = world.layout(number)
        rows.append((
            world.bases(number), world.fields(number), world.values(number), world.declares_room(number),
            world.order(number), world.owner(number), world.line(number), layout.fields(), layout.has_room(),
            world.below(number), world.living(number),
        ))
    return rows


def picture_of_objects(objects):
    """Return by living object all that the objects tell of it."""
    return [(item, objects.class_of(item), objects.cells(item), objects.room(item)) for item in objects.alive()]


class Case(unittest.TestCase):
    """A test case that looks at errors with their fields."""

    def assert_raises(self, kind, call, *arguments, why=None, **fields):
        """Check that the call raises just this error, with the very values that were passed."""
        with self.assertRaises(kind) as caught:
            call(*arguments)
        error = caught.exception
        self.assertIs(type(error), kind)
        for name, value in fields.items():
            self.assertIs(getattr(error, name), value)
        if why is not None:
            self.assertEqual(error.why, why)

    def assert_keeps(self, picture, kind, call, *arguments, why=None, **fields):
        """Check that the call raises just this error, and that a picture is the same behind it."""
        before = picture()
        self.assert_raises(kind, call, *arguments, why=why, **fields)
        self.assertEqual(picture(), before)

    def assert_collides(self, call, number, owners, offset, names):
        """Check that the call raises this Collision."""
        with self.assertRaises(Collision) as caught:
            call()
        error = caught.exception
        self.assertEqual((error.number, error.owners, error.offset, error.names), (number, owners, offset, names))
        self.assertEqual([type(error.owners), type(error.names)], [tuple, tuple])

    def assert_no_order(self, call, number, lists):
        """Check that the call raises NoOrder with the ring that merge returns for these lists."""
        with self.assertRaises(NoOrder) as caught:
            call()
        error = caught.exception
        self.assertEqual((error.number, ("ring", error.ring)), (number, merge(lists)))
        self.assertTrue(shows_merge(lists, ("ring", error.ring)))
