"""Objects: cells and rooms, laid out once by the class of each object."""

from layoutline.checks import check_value
from layoutline.errors import NoName, NoObject, NotSet, OtherLayout, TooMany
from layoutline.finding import reader
from layoutline.kinds import is_int
from layoutline.tables import pairs_of

MOST_ALIVE = 40


class Body:
    """A living object: its class, its cells by offset, and its room, which is None if it has none."""

    def __init__(self, class_number, layout):
        self.class_number = class_number
        self.cell_list = [("unset",)] * len(layout)
        self.room_table = {} if layout.has_room() else None


class Objects:
    """Objects of the classes of a world."""

    def __init__(self, world):
        self._world = world
        self._bodies = {}
        self._made = 0

    def new(self, number):
        """Make an object of a class and return its number."""
        layout = self._world.layout(number)
        if len(self._bodies) >= MOST_ALIVE:
            raise TooMany(MOST_ALIVE)
        item = self._made
        self._made = item + 1
        self._bodies[item] = Body(number, layout)
        self._world.change_living(number, 1)
        return item

    def drop(self, item):
        """End the life of an object."""
        self._world.change_living(self._body(item).class_number, -1)
        del self._bodies[item]

    def alive(self):
        """Return the ascending list of the living objects."""
        # Numbers grow, and a dict keeps the order in which they came.
        return list(self._bodies)

    def class_of(self, item):
        """Return the class of an object."""
        return self._body(item).class_number

    def read(self, item, name):
        """Return the value that an object has by a name."""
        return self.read_by(item, name, self._reader(item, name))

    def write(self, item, name, value):
        """Set the cell of a field, or put a value into the room."""
        right = self._reader(item, name)
        check_value(value)
        self.write_by(item, name, value, right)

    def erase(self, item, name):
        """Unset the cell of a field, or take a name out of the room."""
        self.erase_by(item, name, self._reader(item, name))

    def cells(self, item):
        """Return by offset ("set", value) or ("unset",)."""
        return list(self._body(item).cell_list)

    def room(self, item):
        """Return the ascending list of the tuples (name, value) in the room, or None without a room."""
        table = self._body(item).room_table
        return None if table is None else pairs_of(table)

    def set_class(self, item, number):
        """Give an object another class of an equal layout."""
        body = self._body(item)
        layout = self._world.layout(number)
        offset = self._world.layout(body.class_number).first_difference(layout)
        if offset is not None:
            raise OtherLayout(offset)
        self._world.change_living(body.class_number, -1)
        self._world.change_living(number, 1)
        body.class_number = number

    def twins(self, number):
        """Return the ascending list of all classes whose layouts are equal to that of a class."""
        layout = self._world.layout(number)
        return [place for place in range(self._world.count()) if self._world.layout(place) == layout]

    def world(self):
        """Return the world of the objects."""
        return self._world

    # The next three take a reader that may be no longer right, as it was kept through changes.

    def read_by(self, item, name, kept):
        """Return the value that an object has by a name, where a reader says what is found."""
        body = self._body(item)
        if _has_cell(body, kept):
            return _full_cell(body, kept[1], name)[1]
        if body.room_table is not None and name in body.room_table:
            return body.room_table[name]
        table = {} if kept is None or kept[0] == "field" else self._world.table(kept[1])
        if name not in table:
            raise NoName(name)
        return table[name]

    def write_by(self, item, name, value, kept):
        """Set the cell that a reader tells, or put a value into the room."""
        body = self._body(item)
        if _has_cell(body, kept):
            body.cell_list[kept[1]] = ("set", value)
            return
        if body.room_table is None:
            raise NoName(name)
        body.room_table[name] = value

    def erase_by(self, item, name, kept):
        """Unset the cell that a reader tells, or take a name out of the room."""
        body = self._body(item)
        if _has_cell(body, kept):
            _full_cell(body, kept[1], name)
            body.cell_list[kept[1]] = ("unset",)
            return
        if body.room_table is None or name not in body.room_table:
            raise NoName(name)
        del body.room_table[name]

    def _body(self, item):
        if not is_int(item) or item not in self._bodies:
            raise NoObject(item)
        return self._bodies[item]

    def _reader(self, item, name):
        return reader(self._world, self._body(item).class_number, name)


def _has_cell(body, kept):
    """Tell whether a reader tells a cell that the object has."""
    return kept is not None and kept[0] == "field" and kept[1] < len(body.cell_list)


def _full_cell(body, offset, name):
    """Return the cell at an offset, or raise if it is unset."""
    cell = body.cell_list[offset]
    if cell == ("unset",):
        raise NotSet(name)
    return cell
