"""Shapes: the linear order, the line and the layout that its bases give to a class."""

from layoutline.errors import Collision, HasRoom, NoOrder
from layoutline.layouts import Layout
from layoutline.orders import merge


class Shape:
    """A class without its values and objects; immutable."""

    def __init__(self, number, bases, fields, roomy, shapes):
        """Raise what makes the class impossible, where shapes are by number those of the classes above it."""
        above = _line_above(number, bases, shapes)
        self._order = [number] + _order_above(number, bases, shapes)
        if roomy:
            _check_room(number, bases, shapes)
        self._layout = _layout_of(bases, fields, roomy, above, shapes)
        first = len(self._layout) - len(fields)
        self._offsets = {name: first + at for at, name in enumerate(fields)}
        self._line = [number] + above if fields or not bases else above
        self._bases = list(bases)
        self._fields = list(fields)
        self._roomy = roomy

    def bases(self):
        """Return the list of the bases."""
        return list(self._bases)

    def fields(self):
        """Return the list of the fields that the class itself declares."""
        return list(self._fields)

    def own_offset(self, name):
        """Return the offset of a field that the class itself declares, or None for another name."""
        return self._offsets.get(name)

    def declares_room(self):
        """Tell whether the class itself declares the room."""
        return self._roomy

    def order(self):
        """Return the linear order of the class."""
        return list(self._order)

    def line(self):
        """Return the owner, the owner of its bases, and so on up to class 0."""
        return list(self._line)

    def layout(self):
        """Return the layout."""
        return self._layout


def collision_of(numbers, shapes):
    """Return (owners, offset, names) of the first two classes whose owners are on no line, or None."""
    for at, first in enumerate(numbers):
        for second in numbers[at + 1:]:
            one = shapes[first].line()
            other = shapes[second].line()
            if one[0] not in other and other[0] not in one:
                return _collision_between(one, other, shapes)
    return None


def _collision_between(one, other, shapes):
    """Return the collision of the owners at which two lines begin."""
    common = [owner for owner in one if owner in other]
    offset = len(shapes[common[0]].layout())
    owners = (one[0], other[0])
    return (owners, offset, tuple([shapes[owner].layout()[offset] for owner in owners]))


def _line_above(number, bases, shapes):
    """Return the line of the bases of a class."""
    collision = collision_of(bases, shapes)
    if collision is not None:
        owners, offset, names = collision
        raise Collision(number, owners, offset, names)
    # Where no two owners collide, one of them has all the others on its line.
    return max([shapes[base].line() for base in bases], key=len, default=[])


def _order_above(number, bases, shapes):
    """Return what follows a class in its linear order."""
    word, merged = merge([shapes[base].order() for base in bases] + [list(bases)])
    if word == "ring":
        raise NoOrder(number, merged)
    return merged


def _check_room(number, bases, shapes):
    for base in bases:
        if shapes[base].layout().has_room():
            raise HasRoom(number, base)


def _layout_of(bases, fields, roomy, above, shapes):
    layout = shapes[above[0]].layout() if above else Layout([])
    has_room = roomy or any([shapes[base].layout().has_room() for base in bases])
    more = layout + fields
    return more.with_room() if has_room else more
