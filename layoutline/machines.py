"""Machines: objects that are read and written by kept readers."""

from layoutline.checks import check_name, check_value
from layoutline.errors import BadList
from layoutline.finding import reader
from layoutline.kinds import is_int, is_name
from layoutline.tables import sorted_names


class Machine:
    """The readers that are kept for objects, and how often one was asked for."""

    def __init__(self, objects):
        self._objects = objects
        self._readers = {}
        self._asked = 0

    def read(self, item, name):
        """Return the value that an object has by a name."""
        number = self._objects.class_of(item)
        check_name(name)
        return self._objects.read_by(item, name, self._reader(number, name))

    def write(self, item, name, value):
        """Set the cell of a field, or put a value into the room."""
        number = self._objects.class_of(item)
        check_name(name)
        check_value(value)
        self._objects.write_by(item, name, value, self._reader(number, name))

    def erase(self, item, name):
        """Unset the cell of a field, or take a name out of the room."""
        number = self._objects.class_of(item)
        check_name(name)
        self._objects.erase_by(item, name, self._reader(number, name))

    def told(self, spoilt):
        """Take away the kept readers of a list of tuples (class, name)."""
        many = self._objects.world().count()
        if not isinstance(spoilt, list) or not all([_is_key(thing, many) for thing in spoilt]):
            raise BadList("spoilt")
        for number, name in spoilt:
            self._readers.get(number, {}).pop(name, None)

    def walks(self):
        """Return how often a reader was asked for."""
        return self._asked

    def kept(self):
        """Return the ascending list of the tuples (class, name, reader) that are kept."""
        rows = []
        for number in range(self._objects.world().count()):
            table = self._readers.get(number, {})
            rows.extend([(number, name, table[name]) for name in sorted_names(table)])
        return rows

    def stale(self):
        """Return the ascending list of the tuples (class, name) whose kept reader is no longer right."""
        world = self._objects.world()
        return [(number, name) for number, name, old in self.kept() if old != reader(world, number, name)]

    def _reader(self, number, name):
        """Return the reader that is kept, or keep the one that there is now."""
        table = self._readers.setdefault(number, {})
        if name not in table:
            table[name] = reader(self._objects.world(), number, name)
            self._asked += 1
        return table[name]


def _is_key(thing, many):
    """Tell whether any object is a tuple of a class and a name where there are so many classes."""
    if not isinstance(thing, tuple) or len(thing) != 2:
        return False
    return is_int(thing[0]) and 0 <= thing[0] < many and is_name(thing[1])
