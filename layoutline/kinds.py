"""What counts as an integer and as a name."""

LONGEST_NAME = 8


def is_int(thing):
    """Tell whether any object is an integer; a bool is none."""
    return isinstance(thing, int) and not isinstance(thing, bool)


def is_name(thing):
    """Tell whether any object is a string of one to eight letters a to z."""
    if not isinstance(thing, str) or not 1 <= len(thing) <= LONGEST_NAME:
        return False
    return all(["a" <= letter <= "z" for letter in thing])
