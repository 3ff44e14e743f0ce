"""Checks of arguments that raise the errors which several modules share."""

from layoutline.errors import BadList, BadName, BadValue, Duplicate, NoClass, TooMany
from layoutline.kinds import is_int, is_name, is_value

MOST_BASES = 5
MOST_FIELDS = 6
MOST_VALUES = 6


def check_name(name):
    """Raise unless any object is a name."""
    if not is_name(name):
        raise BadName(name)


def check_value(value):
    """Raise unless any object is a value."""
    if not is_value(value):
        raise BadValue()


def check_class(number, many):
    """Raise unless any object is the number of one of so many classes."""
    if not is_int(number) or not 0 <= number < many:
        raise NoClass(number)


def check_classes(numbers, many):
    """Raise unless numbers is a list of classes where there are so many."""
    if not isinstance(numbers, list):
        raise BadList("classes")
    for number in numbers:
        check_class(number, many)


def check_names(fields):
    """Raise unless fields is a list of names."""
    if not isinstance(fields, list):
        raise BadList("fields")
    for name in fields:
        check_name(name)


def check_unlike(things):
    """Raise for the first of some integers or names that stands earlier among them."""
    seen = set()
    for thing in things:
        if thing in seen:
            raise Duplicate(thing)
        seen.add(thing)


def check_more_fields(fields):
    """Raise unless fields may be put behind the fields of a layout."""
    check_names(fields)
    check_unlike(fields)
    if len(fields) > MOST_FIELDS:
        raise TooMany(MOST_FIELDS)


def check_bases(bases, many):
    """Raise unless bases may be those of a class where there are so many classes."""
    if not isinstance(bases, list) or len(bases) == 0:
        raise BadList("bases")
    for base in bases:
        check_class(base, many)
    check_unlike(bases)
    if len(bases) > MOST_BASES:
        raise TooMany(MOST_BASES)


def check_pairs(pairs, fields):
    """Raise unless a class of these fields may declare these names with values."""
    if not isinstance(pairs, (list, tuple)) or not all([_is_pair(pair) for pair in pairs]):
        raise BadList("values")
    for name, _ in pairs:
        check_name(name)
    for _, value in pairs:
        check_value(value)
    check_unlike(fields + [name for name, _ in pairs])
    if len(pairs) > MOST_VALUES:
        raise TooMany(MOST_VALUES)


def _is_pair(thing):
    return isinstance(thing, tuple) and len(thing) == 2
