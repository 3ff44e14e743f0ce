"""Layouts: which field stands at which offset of an object."""

from layoutline.checks import check_more_fields, check_name, check_names
from layoutline.errors import BadList, BadOffset
from layoutline.kinds import is_int, is_name


class Layout:
    """Names by offset, and perhaps the room; immutable."""

    __slots__ = ("_fields", "_room")

    def __init__(self, fields, has_room=False):
        check_names(fields)
        if not isinstance(has_room, bool):
            raise BadList("room")
        self._fields = tuple(fields)
        self._room = has_room

    def fields(self):
        """Return the list of the names by offset."""
        return list(self._fields)

    def has_room(self):
        """Tell whether the layout has the room."""
        return self._room

    def with_room(self):
        """Return a layout with the same fields and the room."""
        return Layout(self.fields(), True)

    def offset_of(self, name):
        """Return the greatest offset at which a name stands, or None."""
        check_name(name)
        for offset in reversed(range(len(self._fields))):
            if self._fields[offset] == name:
                return offset
        return None

    def first_difference(self, other):
        """Return the offset at which two layouts begin to differ, or None if they are equal."""
        if self == other:
            return None
        shorter = min(len(self._fields), len(other._fields))
        for offset in range(shorter):
            if self._fields[offset] != other._fields[offset]:
                return offset
        return shorter

    def __len__(self):
        return len(self._fields)

    def __getitem__(self, at):
        if not is_int(at) or not 0 <= at < len(self._fields):
            raise BadOffset(at)
        return self._fields[at]

    # Python would otherwise iterate by [] and end in a BadOffset.
    def __iter__(self):
        raise TypeError("a layout is not iterated over")

    # A value that is no name may call itself equal to one, or may not be comparable at all.
    def __contains__(self, x):
        return is_name(x) and x in self._fields

    def __add__(self, other):
        check_more_fields(other)
        return Layout(self.fields() + other, self._room)

    def __le__(self, other):
        if not isinstance(other, Layout):
            return NotImplemented
        begins = self._fields == other._fields[:len(self._fields)]
        return begins and (other._room or not self._room)

    def __eq__(self, other):
        return isinstance(other, Layout) and self._fields == other._fields and self._room == other._room

    def __repr__(self):
        return f"Layout({self.fields()}, {self._room})"
