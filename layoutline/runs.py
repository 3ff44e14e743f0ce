"""Runs: many calls one by one, with what each of them returns or raises."""

from layoutline.changes import drop_value, set_bases, set_value
from layoutline.errors import BadStep, LineError

LENGTHS = {
    "make": 5, "value": 4, "unvalue": 3, "bases": 3,
    "new": 2, "drop": 2, "read": 3, "write": 4, "erase": 3, "class": 3,
}


def run(world, objects, steps):
    """Do the steps and return for each of them ("told", result) or ("error", why)."""
    if not isinstance(steps, list):
        raise BadStep(None)
    for at, step in enumerate(steps):
        if not _is_step(step):
            raise BadStep(at)
    told = []
    for step in steps:
        told.append(_told_by(world, objects, step))
    return told


def _is_step(thing):
    """Tell whether any object is a tuple that begins with a word and has its length."""
    if not isinstance(thing, tuple) or len(thing) == 0 or not isinstance(thing[0], str):
        return False
    return len(thing) == LENGTHS.get(thing[0])


def _told_by(world, objects, step):
    try:
        return ("told", _do(world, objects, step))
    except LineError as error:
        return ("error", error.why)


def _do(world, objects, step):
    match step:
        case ("make", bases, fields, roomy, pairs):
            return world.make_class(bases, fields, roomy=roomy, pairs=pairs)
        case ("value", number, name, value):
            return set_value(world, number, name, value)
        case ("unvalue", number, name):
            return drop_value(world, number, name)
        case ("bases", number, bases):
            return set_bases(world, number, bases)
        case ("new", number):
            return objects.new(number)
        case ("drop", item):
            return objects.drop(item)
        case ("read", item, name):
            return objects.read(item, name)
        case ("write", item, name, value):
            return objects.write(item, name, value)
        case ("erase", item, name):
            return objects.erase(item, name)
        case ("class", item, number):
            return objects.set_class(item, number)
