"""Judges of papers that say why some classes cannot be the bases of one class."""

from layoutline.checks import check_bases
from layoutline.kinds import is_int, is_name
from layoutline.orders import is_ring
from layoutline.shapes import collision_of


def shows_collision(world, bases, paper):
    """Tell whether any object is (owners, offset, names) of two bases whose owners are on no line."""
    check_bases(bases, world.count())
    shapes = world.shapes()
    pairs = [[first, second] for at, first in enumerate(bases) for second in bases[at + 1:]]
    return _is_like_a_collision(paper) and paper in [collision_of(pair, shapes) for pair in pairs]


def shows_ring(world, bases, paper):
    """Tell whether any object is a ring of the linear orders of the bases and the list of the bases."""
    check_bases(bases, world.count())
    return is_ring([world.order(base) for base in bases] + [bases], paper)


def _is_like_a_collision(paper):
    """Tell whether any object is a tuple of integers, an integer, and a tuple of names."""
    # A True would be equal to a 1, and an odd object may call itself equal to anything.
    if not isinstance(paper, tuple) or len(paper) != 3:
        return False
    owners, offset, names = paper
    if not isinstance(owners, tuple) or not is_int(offset) or not isinstance(names, tuple):
        return False
    return all([is_int(owner) for owner in owners]) and all([is_name(name) for name in names])
