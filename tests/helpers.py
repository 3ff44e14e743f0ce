"""What several tests use."""

import unittest


class EqualToAll:
    """Calls itself equal to everything; cannot be hashed."""

    def __eq__(self, other):
        return True

    __hash__ = None


class Incomparable:
    """Must not be compared or hashed."""

    def __eq__(self, other):
        raise AssertionError("compared")

    def __hash__(self):
        raise AssertionError("hashed")


def odd_values():
    """Return values that are neither lists nor names nor integers nor bools."""
    return [
        None, (), ("a",), ((1, 2),), {}, {"a": 1}, {1}, b"a", bytearray(b"a"), 1j, slice(0, 1), range(2), len, int,
        object(), EqualToAll(), Incomparable(), iter([1]),
    ]


class Case(unittest.TestCase):
    """A test case that looks at errors with their fields."""

    def assert_raises(self, kind, call, *arguments, why=None, **fields):
        """Check that the call raises just this error, with the very values that were passed."""
        with self.assertRaises(kind) as caught:
            call(*arguments)
        error = caught.exception
        self.assertIs(type(error), kind)
        for name, value in fields.items():
            self.assertIs(getattr(error, name), value)
        if why is not None:
            self.assertEqual(error.why, why)
