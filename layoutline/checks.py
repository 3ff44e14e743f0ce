"""Checks of arguments that raise the errors which several modules share."""

from layoutline.errors import BadList, BadName, Duplicate, TooMany
from layoutline.kinds import is_name

MOST_FIELDS = 6


def check_names(fields):
    """Raise unless fields is a list of names."""
    if not isinstance(fields, list):
        raise BadList("fields")
    for name in fields:
        if not is_name(name):
            raise BadName(name)


def check_unlike(things):
    """Raise for the first of some integers or names that stands earlier among them."""
    seen = set()
    for thing in things:
        if thing in seen:
            raise Duplicate(thing)
        seen.add(thing)


def check_more_fields(fields):
    """Raise unless fields may be put behind the fields of a layout."""
    check_names(fields)
    check_unlike(fields)
    if len(fields) > MOST_FIELDS:
        raise TooMany(MOST_FIELDS)
