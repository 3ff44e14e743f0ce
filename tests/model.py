"""A plain model of worlds, objects and machines, as the document says it; nothing is kept that can be asked."""

import copy
import itertools


class Refused(Exception):
    """What the program must raise: the name of the error and its fields; instead of a ring, its lists."""

    def __init__(self, kind, lists=None, **fields):
        super().__init__(kind, fields)
        self.told = (kind, fields)
        self.lists = lists


def plain_merge(lists):
    """Return the order, or None, as point 1.1 says it."""
    rests = [list(items) for items in lists]
    order = []
    while any(rests):
        free = [rest[0] for rest in rests if rest and not any(rest[0] in other[1:] for other in rests)]
        if not free:
            return None
        order.append(free[0])
        rests = [rest[1:] if rest and rest[0] == free[0] else rest for rest in rests]
    return order


def plain_ring(lists, ring):
    """Tell whether a list of tuples of two integers is a ring, as point 1.2 says it."""
    items = [item for item, index in ring]
    if len(ring) < 2 or any(items.count(item) > 1 for item in items):
        return False
    for place, (item, index) in enumerate(ring):
        follower = items[(place + 1) % len(items)]
        if index not in range(len(lists)):
            return False
        if (item, follower) not in list(itertools.combinations(lists[index], 2)):
            return False
    return True


class Model:
    """Classes and objects; arguments are taken to be of the right kinds."""

    def __init__(self):
        self.bases = [[]]
        self.fields = [[]]
        self.rooms = [False]
        self.tables = [{}]
        self.objects = {}
        self.made = 0

    # Classes: points 3.4 to 3.7.

    def count(self):
        return len(self.bases)

    def order(self, number):
        return [number, *self.merged(number)]

    def lists(self, number):
        return [*[self.order(base) for base in self.bases[number]], self.bases[number]]

    def merged(self, number):
        return plain_merge(self.lists(number))

    def owner(self, number):
        if number == 0 or self.fields[number]:
            return number
        return self.owner_of_bases(number)

    def owner_of_bases(self, number):
        owners = [self.owner(base) for base in self.bases[number]]
        for owner in owners:
            if all(other in self.line(owner) for other in owners):
                return owner
        raise AssertionError("the bases have no owner")

    def line(self, number):
        owner = self.owner(number)
        return [owner] if owner == 0 else [owner, *self.line(self.owner_of_bases(owner))]

    def all_fields(self, number):
        return [name for owner in reversed(self.line(number)) for name in self.fields[owner]]

    def has_room(self, number):
        return self.rooms[number] or any(self.has_room(base) for base in self.bases[number])

    def layout(self, number):
        return (self.all_fields(number), self.has_room(number))

    def below(self, number):
        bases = enumerate(self.bases)
        direct = {place for place, its in bases if number in its}
        return sorted(direct.union(*[self.below(place) for place in direct]))

    def living(self, number):
        return sum(item["class"] == number for item in self.objects.values())

    def meeting(self, numbers):
        """Return (owners, offset, names) as 3.5 says it, or None."""
        for at, first in enumerate(numbers):
            for second in numbers[at + 1:]:
                owners = (self.owner(first), self.owner(second))
                lines = [self.line(owner) for owner in owners]
                if owners[0] in lines[1] or owners[1] in lines[0]:
                    continue
                common = [owner for owner in lines[0] if owner in lines[1]][0]
                offset = len(self.all_fields(common))
                return (owners, offset, tuple(self.all_fields(owner)[offset] for owner in owners))
        return None

    def look_at(self, number):
        """Raise the first fault of a class."""
        meeting = self.meeting(self.bases[number])
        if meeting is not None:
            owners, offset, names = meeting
            raise Refused("Collision", number=number, owners=owners, offset=offset, names=names)
        if self.merged(number) is None:
            raise Refused("NoOrder", self.lists(number), number=number)
        for base in self.bases[number]:
            if self.rooms[number] and self.has_room(base):
                raise Refused("HasRoom", number=number, base=base)

    def make_class(self, bases, fields, roomy, pairs):
        """Make a class, with the errors of 3.3 that are not about kinds of values."""
        names = [name for name, value in pairs]
        for at, name in enumerate(names):
            if name in names[:at] or name in fields:
                raise Refused("Duplicate", thing=name)
        if self.count() == 25:
            raise Refused("TooMany", limit=25)
        rows = (self.bases, self.fields, self.rooms, self.tables)
        for row, thing in zip(rows, (list(bases), list(fields), roomy, dict(pairs))):
            row.append(thing)
        try:
            self.look_at(self.count() - 1)
        except Refused:
            for row in rows:
                row.pop()
            raise
        return self.count() - 1

    # Finding: points 4.1 to 4.3.

    def find(self, number, name):
        for place in self.order(number):
            if name in self.fields[place]:
                above = len(self.all_fields(place)) - len(self.fields[place])
                return ("field", place, above + self.fields[place].index(name))
            if name in self.tables[place]:
                return ("value", place, self.tables[place][name])
        return None

    def reader(self, number, name):
        found = self.find(number, name)
        if found is None:
            return None
        return ("field", found[2]) if found[0] == "field" else ("value", found[1])

    def declared(self, number):
        return {(place, name) for place in self.order(number) for name in [*self.fields[place], *self.tables[place]]}

    def names_of(self, number):
        return sorted({name for place, name in self.declared(number)})

    def hidden(self, number):
        return sorted(row for row in self.declared(number) if self.find(number, row[1])[1] != row[0])

    # Changes: points 6.1 to 6.5.

    def readers(self, names):
        return {(number, name): self.reader(number, name) for number in range(self.count()) for name in names}

    def spoilt(self, old):
        """Return the readers that are not those of an older model."""
        declared = [*self.fields, *self.tables, *old.fields, *old.tables]
        names = {name for row in declared for name in row}
        before = old.readers(names)
        after = self.readers(names)
        return sorted(key for key in before if before[key] != after[key])

    def set_value(self, number, name, value):
        if name in self.fields[number]:
            raise Refused("Duplicate", thing=name)
        if name not in self.tables[number] and len(self.tables[number]) == 6:
            raise Refused("TooMany", limit=6)
        old = copy.deepcopy(self)
        self.tables[number][name] = value
        return self.spoilt(old)

    def drop_value(self, number, name):
        if name not in self.tables[number]:
            raise Refused("NoName", name=name)
        old = copy.deepcopy(self)
        del self.tables[number][name]
        return self.spoilt(old)

    def with_bases(self, number, bases):
        """Return the model in which a class has other bases."""
        concerned = [number, *self.below(number)]
        for base in bases:
            if base in concerned:
                raise Refused("BelowItself", base=base)
        new = copy.deepcopy(self)
        new.bases[number] = list(bases)
        while concerned:
            place = min(place for place in concerned if not set(new.bases[place]) & set(concerned))
            concerned.remove(place)
            new.look_at(place)
            if self.living(place) and self.layout(place) != new.layout(place):
                offset = first_difference(self.layout(place), new.layout(place))
                raise Refused("LayoutMoves", number=place, offset=offset)
        return new

    def spoilt_by(self, number, bases):
        return self.with_bases(number, bases).spoilt(self)

    def set_bases(self, number, bases):
        new = self.with_bases(number, bases)
        spoilt = new.spoilt(self)
        self.bases = new.bases
        return spoilt

    # Objects: points 5.1 to 5.6.

    def new(self, number):
        if len(self.objects) == 40:
            raise Refused("TooMany", limit=40)
        self.objects[self.made] = {"class": number, "cells": {}, "room": {}}
        self.made += 1
        return self.made - 1

    def item(self, item):
        if item not in self.objects:
            raise Refused("NoObject", number=item)
        return self.objects[item]

    def drop(self, item):
        self.item(item)
        del self.objects[item]

    def place(self, item, name):
        """Return the table and the key that a name stands for, or None where it stands for nothing."""
        found = self.find(self.item(item)["class"], name)
        if found is not None and found[0] == "field":
            return (self.item(item)["cells"], found[2])
        return (self.item(item)["room"], name) if self.has_room(self.item(item)["class"]) else None

    def read(self, item, name):
        body = self.item(item)
        found = self.find(body["class"], name)
        if found is not None and found[0] == "field":
            if found[2] not in body["cells"]:
                raise Refused("NotSet", name=name)
            return body["cells"][found[2]]
        if name in body["room"]:
            return body["room"][name]
        if found is None:
            raise Refused("NoName", name=name)
        return found[2]

    def write(self, item, name, value):
        put(self.place(item, name), name, value)

    def erase(self, item, name):
        take(self.place(item, name), name)

    def cells(self, item):
        cells = self.item(item)["cells"]
        fields = self.all_fields(self.item(item)["class"])
        return [("set", cells[offset]) if offset in cells else ("unset",) for offset in range(len(fields))]

    def room(self, item):
        body = self.item(item)
        return sorted(body["room"].items()) if self.has_room(body["class"]) else None

    def set_class(self, item, number):
        old = self.layout(self.item(item)["class"])
        if old != self.layout(number):
            raise Refused("OtherLayout", offset=first_difference(old, self.layout(number)))
        self.item(item)["class"] = number

    def twins(self, number):
        return [place for place in range(self.count()) if self.layout(place) == self.layout(number)]


class PlainMachine:
    """Kept readers over a model: points 9.1 to 9.4."""

    def __init__(self, model):
        self.model = model
        self.readers = {}
        self.walks = 0

    def reader(self, item, name):
        key = (self.model.item(item)["class"], name)
        if key not in self.readers:
            self.walks += 1
            self.readers[key] = self.model.reader(*key)
        return self.readers[key]

    def place(self, item, name):
        """Return the table and the key that the kept reader tells, or None if it tells nothing."""
        kept = self.reader(item, name)
        body = self.model.item(item)
        if kept is not None and kept[0] == "field" and kept[1] in range(len(self.model.cells(item))):
            return (body["cells"], kept[1])
        return (body["room"], name) if self.model.has_room(body["class"]) else None

    def read(self, item, name):
        place = self.place(item, name)
        if place is not None and place[1] in place[0]:
            return place[0][place[1]]
        if place is not None and place[1] != name:
            raise Refused("NotSet", name=name)
        kept = self.reader(item, name)
        if kept is not None and kept[0] == "value" and name in self.model.tables[kept[1]]:
            return self.model.tables[kept[1]][name]
        raise Refused("NoName", name=name)

    def write(self, item, name, value):
        put(self.place(item, name), name, value)

    def erase(self, item, name):
        take(self.place(item, name), name)

    def told(self, spoilt):
        for key in spoilt:
            self.readers.pop(key, None)

    def kept(self):
        return [(*key, self.readers[key]) for key in sorted(self.readers)]

    def stale(self):
        return [key for key in sorted(self.readers) if self.readers[key] != self.model.reader(*key)]


def put(place, name, value):
    """Put a value where a table and a key say."""
    if place is None:
        raise Refused("NoName", name=name)
    place[0][place[1]] = value


def take(place, name):
    """Take away what stands where a table and a key say."""
    if place is None or place[1] not in place[0]:
        is_cell = place is not None and isinstance(place[1], int)
        raise Refused("NotSet" if is_cell else "NoName", name=name)
    del place[0][place[1]]


def first_difference(one, other):
    """Return the offset of 2.4 for two layouts that are not equal."""
    for offset, (name, its) in enumerate(zip(one[0], other[0])):
        if name != its:
            return offset
    return min(len(one[0]), len(other[0]))
