"""What counts as an integer, as a name and as a value."""

LONGEST_NAME = 8
DEEPEST_VALUE = 4


def is_int(thing):
    """Tell whether any object is an integer; a bool is none."""
    return isinstance(thing, int) and not isinstance(thing, bool)


def is_name(thing):
    """Tell whether any object is a string of one to eight letters a to z."""
    if not isinstance(thing, str) or not 1 <= len(thing) <= LONGEST_NAME:
        return False
    return all(["a" <= letter <= "z" for letter in thing])


def is_value(thing):
    """Tell whether any object is an integer, a string, or a tuple of values at most four deep."""
    return _is_value_within(thing, DEEPEST_VALUE)


def _is_value_within(thing, depth):
    if isinstance(thing, tuple):
        return depth > 0 and all([_is_value_within(part, depth - 1) for part in thing])
    return is_int(thing) or isinstance(thing, str)
