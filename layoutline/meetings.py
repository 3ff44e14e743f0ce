"""Meetings: which classes may be bases together, and in which orders."""

from layoutline.checks import MOST_BASES, check_classes, check_unlike
from layoutline.errors import TooMany
from layoutline.orders import merge
from layoutline.shapes import collision_of


def largest(world, classes):
    """Return a largest part of a list of classes whose owners lie on one line."""
    _check_unlike_classes(world, classes)
    best = []
    for deepest in classes:
        line = world.line(deepest)
        part = [at for at, number in enumerate(classes) if world.owner(number) in line]
        if len(part) > len(best) or (len(part) == len(best) and part < best):
            best = part
    return [classes[at] for at in best]


def base_orders(world, classes):
    """Return the ascending list of all lists of just these classes that can be the bases of a class."""
    _check_unlike_classes(world, classes)
    if len(classes) > MOST_BASES:
        raise TooMany(MOST_BASES)
    if not classes or collision_of(classes, world.shapes()) is not None:
        return []
    return _arrangements(sorted([int(number) for number in classes]), _pairs_in_order(world, classes))


def _check_unlike_classes(world, classes):
    check_classes(classes, world.count())
    check_unlike(classes)


def _pairs_in_order(world, classes):
    """Return the lists of two of the classes of which the first may stand ahead of the second among bases."""
    # If bases cannot be merged, their linear orders alone are in a ring, or put a base ahead of one
    # that stands ahead of it in the list. Either shows in two of the bases, so pairs are enough.
    orders = [world.order(number) for number in classes]
    pairs = [[first, second] for first in classes for second in classes if first != second]
    return [pair for pair in pairs if merge(orders + [pair])[0] == "order"]


def _arrangements(numbers, pairs):
    """Return the ascending list of all lists of just these ascending numbers that have no other pairs in order."""
    if not numbers:
        return [[]]
    found = []
    for at, first in enumerate(numbers):
        rest = numbers[:at] + numbers[at + 1:]
        if all([[first, second] in pairs for second in rest]):
            found.extend([[first] + behind for behind in _arrangements(rest, pairs)])
    return found
