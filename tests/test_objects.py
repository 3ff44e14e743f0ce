"""Objects: points 5.1 to 5.7, and 0.2 to 0.4 for them."""

import copy
import itertools
import unittest

from layoutline.changes import drop_value, set_bases, set_value
from layoutline.errors import BadName, BadValue, NoClass, NoName, NoObject, NotSet, OtherLayout, TooMany
from layoutline.finding import find
from layoutline.objects import Objects
from layoutline.worlds import World
from tests.helpers import (
    Case, EqualToAll, not_names, not_numbers, not_values, picture_of_objects, picture_of_world, values,
)


def make_world():
    """Return a world: 1 has fields, 2 hides one, 3 has room and fields, 4 hides one there, 5 has room alone."""
    world = World()
    world.make_class([0], ["a", "b"], pairs=[("v", 1)])
    world.make_class([1], [], pairs=[("a", 2)])
    world.make_class([1], ["a", "c"], roomy=True)
    world.make_class([3], [], pairs=[("c", 3), ("w", 4)])
    world.make_class([0], [], roomy=True, pairs=[("v", 5)])
    return world


class Start(Case):
    """A world with objects, and a picture of both."""

    def setUp(self):
        self.world = make_world()
        self.objects = Objects(self.world)

    def picture(self):
        return [picture_of_world(self.world), self.objects.alive(), picture_of_objects(self.objects)]

    def assert_refused(self, kind, call, *arguments, **fields):
        self.assert_keeps(self.picture, kind, call, *arguments, **fields)


class Lives(Start):

    def test_numbers_from_0_on(self):
        self.assertEqual(self.objects.alive(), [])
        for at, number in enumerate([3, 0, 1, 5, 1]):
            item = self.objects.new(number)
            self.assertEqual(item, at)
            self.assertIs(type(item), int)
            self.assertEqual(self.objects.class_of(item), number)
        self.assertEqual(self.objects.alive(), [0, 1, 2, 3, 4])

    def test_a_number_is_never_used_again(self):
        for item in range(5):
            self.objects.new(1)
            self.assertIsNone(self.objects.drop(item))
        self.assertEqual([self.objects.new(1), self.objects.alive()], [5, [5]])
        self.objects.new(2)
        self.objects.drop(5)
        self.assertEqual([self.objects.new(1), self.objects.alive()], [7, [6, 7]])
        for item in (0, 4, 5, 8):
            self.assert_refused(NoObject, self.objects.class_of, item, number=item)

    def test_at_most_40_are_alive(self):
        for item in range(40):
            self.assertEqual(self.objects.new(item % 6), item)
        for number in (0, 1):
            self.assert_refused(TooMany, self.objects.new, number, limit=40)
        self.assertEqual(self.world.living(0), 7)
        self.objects.drop(17)
        self.assertEqual(self.objects.new(1), 40)
        self.assertEqual(self.objects.alive(), [*range(17), *range(18, 41)])
        self.assert_refused(TooMany, self.objects.new, 1, limit=40)
        self.objects.drop(0)
        self.objects.drop(40)
        self.assertEqual([self.objects.new(5), self.objects.new(5)], [41, 42])

    def test_each_objects_has_40_of_its_own(self):
        other = Objects(self.world)
        for item in range(40):
            self.assertEqual([self.objects.new(1), other.new(1)], [item, item])
        self.assertEqual(self.world.living(1), 80)
        for objects in (self.objects, other):
            self.assert_refused(TooMany, objects.new, 1, limit=40)

    def test_living_counts_all_of_a_world(self):
        other = Objects(self.world)
        elsewhere = Objects(make_world())
        for objects, number in [(self.objects, 1), (other, 1), (other, 2), (elsewhere, 1)]:
            objects.new(number)
        self.assertEqual([self.world.living(number) for number in range(6)], [0, 2, 1, 0, 0, 0])
        other.drop(0)
        self.assertEqual([self.world.living(number) for number in range(6)], [0, 1, 1, 0, 0, 0])
        self.assertEqual([self.objects.alive(), other.alive(), elsewhere.alive()], [[0], [1], [0]])

    def test_two_objects_of_a_world_share_nothing_else(self):
        other = Objects(self.world)
        self.objects.new(3)
        other.new(3)
        self.objects.write(0, "b", 1)
        self.objects.write(0, "x", 2)
        self.assertEqual([other.cells(0), other.room(0)], [[("unset",)] * 4, []])
        other.new(1)
        self.assert_refused(NoObject, self.objects.cells, 1, number=1)

    def test_a_new_object_has_nothing_of_a_dropped_one(self):
        item = self.objects.new(3)
        self.objects.write(item, "a", 1)
        self.objects.write(item, "x", 2)
        self.objects.drop(item)
        item = self.objects.new(3)
        self.assertEqual([self.objects.cells(item), self.objects.room(item)], [[("unset",)] * 4, []])


class Cells(Start):

    def test_cells_by_the_layout(self):
        for number in range(6):
            item = self.objects.new(number)
            self.assertEqual(self.objects.cells(item), [("unset",)] * len(self.world.layout(number)))

    def test_rooms_by_the_layout(self):
        rooms = [self.objects.room(self.objects.new(number)) for number in range(6)]
        self.assertEqual(rooms, [None, None, None, [], [], []])

    def test_set_cells(self):
        item = self.objects.new(3)
        self.assertIsNone(self.objects.write(item, "b", (1, "x")))
        self.assertEqual(self.objects.cells(item), [("unset",), ("set", (1, "x")), ("unset",), ("unset",)])
        self.objects.write(item, "a", "")
        self.objects.write(item, "b", 0)
        self.assertEqual(self.objects.cells(item), [("unset",), ("set", 0), ("set", ""), ("unset",)])

    def test_the_room_is_ascending(self):
        item = self.objects.new(5)
        for name in ["zz", "b", "abcdefgh", "v", "ba"]:
            self.objects.write(item, name, name)
        names = ["abcdefgh", "b", "ba", "v", "zz"]
        self.assertEqual(self.objects.room(item), [(name, name) for name in names])

    def test_the_cells_of_objects_are_their_own(self):
        one, other = self.objects.new(1), self.objects.new(1)
        self.objects.write(one, "a", 1)
        self.objects.write(other, "b", 2)
        self.assertEqual(self.objects.cells(one), [("set", 1), ("unset",)])
        self.assertEqual(self.objects.cells(other), [("unset",), ("set", 2)])

    def test_cells_and_room_stay_through_changes(self):
        item = self.objects.new(4)
        for name, value in [("a", 1), ("b", 2), ("x", 3), ("c", 4)]:
            self.objects.write(item, name, value)
        before = [self.objects.cells(item), self.objects.room(item)]
        self.assertEqual(before, [[("unset",), ("set", 2), ("set", 1), ("unset",)], [("c", 4), ("x", 3)]])
        drop_value(self.world, 4, "c")
        set_value(self.world, 4, "a", 9)
        set_bases(self.world, 4, [3, 1])
        self.assertEqual([self.objects.cells(item), self.objects.room(item)], before)


class Read(Start):

    def test_fields(self):
        item = self.objects.new(3)
        self.objects.write(item, "a", 5)
        self.objects.write(item, "c", 6)
        self.assertEqual([self.objects.read(item, "a"), self.objects.read(item, "c")], [5, 6])
        self.assert_refused(NotSet, self.objects.read, item, "b", name="b", why="not set")

    def test_a_field_that_another_field_hides_is_not_read(self):
        world = World()
        world.make_class([0], ["a"])
        world.make_class([1], ["a"])
        objects = Objects(world)
        objects.new(2)
        objects.write(0, "a", 1)
        self.assertEqual([objects.cells(0), objects.read(0, "a")], [[("unset",), ("set", 1)], 1])

    def test_values_of_the_class(self):
        item = self.objects.new(2)
        self.assertEqual([self.objects.read(item, "a"), self.objects.read(item, "v")], [2, 1])
        set_value(self.world, 1, "v", "new")
        self.assertEqual(self.objects.read(item, "v"), "new")

    def test_the_room_goes_ahead_of_values(self):
        item = self.objects.new(5)
        self.assertEqual(self.objects.read(item, "v"), 5)
        self.objects.write(item, "v", 6)
        self.objects.write(item, "x", 7)
        self.assertEqual([self.objects.read(item, "v"), self.objects.read(item, "x")], [6, 7])
        self.objects.erase(item, "v")
        self.assertEqual(self.objects.read(item, "v"), 5)

    def test_the_cell_goes_ahead_of_the_room(self):
        item = self.objects.new(4)
        self.objects.write(item, "c", 7)
        self.assertEqual(self.objects.read(item, "c"), 7)
        drop_value(self.world, 4, "c")
        self.assert_refused(NotSet, self.objects.read, item, "c", name="c")
        self.objects.write(item, "c", 8)
        self.assertEqual(self.objects.read(item, "c"), 8)
        self.assertEqual([self.objects.cells(item)[3], self.objects.room(item)], [("set", 8), [("c", 7)]])
        set_value(self.world, 4, "c", 9)
        self.assertEqual(self.objects.read(item, "c"), 7)

    def test_nothing(self):
        for number in range(6):
            item = self.objects.new(number)
            self.assert_refused(NoName, self.objects.read, item, "x", name="x", why="no such name")

    def test_values_of_every_kind_come_back(self):
        cell, room = self.objects.new(1), self.objects.new(5)
        for value in values():
            for item in (cell, room):
                self.objects.write(item, "a", value)
                self.assertEqual(self.objects.read(item, "a"), value)
                self.assertIs(type(self.objects.read(item, "a")), type(value))
            self.assertEqual(self.objects.cells(cell), [("set", value), ("unset",)])
            self.assertEqual(self.objects.room(room), [("a", value)])


class Write(Start):

    def test_fields(self):
        item = self.objects.new(3)
        self.objects.write(item, "a", 1)
        self.objects.write(item, "a", 2)
        self.assertEqual([self.objects.cells(item)[2], self.objects.room(item)], [("set", 2), []])

    def test_the_room(self):
        item = self.objects.new(4)
        self.assertIsNone(self.objects.write(item, "c", 1))
        self.objects.write(item, "v", 2)
        self.objects.write(item, "x", 3)
        self.objects.write(item, "x", 4)
        self.assertEqual(self.objects.room(item), [("c", 1), ("v", 2), ("x", 4)])
        self.assertEqual(self.objects.cells(item), [("unset",)] * 4)
        self.assertEqual(find(self.world, 4, "c"), ("value", 4, 3))

    def test_the_room_takes_many_names(self):
        item = self.objects.new(5)
        names = [one + other for one, other in itertools.product("abcdefghij", repeat=2)]
        for name in names:
            self.objects.write(item, name, name)
        self.assertEqual(self.objects.room(item), [(name, name) for name in names])

    def test_no_room(self):
        item = self.objects.new(2)
        for name in ("a", "v", "x"):
            self.assert_refused(NoName, self.objects.write, item, name, 1, name=name)


class Erase(Start):

    def test_fields(self):
        item = self.objects.new(3)
        self.objects.write(item, "b", 1)
        self.objects.write(item, "a", 2)
        self.assertIsNone(self.objects.erase(item, "b"))
        self.assertEqual(self.objects.cells(item), [("unset",), ("unset",), ("set", 2), ("unset",)])
        self.assert_refused(NotSet, self.objects.erase, item, "b", name="b")
        self.objects.write(item, "b", 3)
        self.assertEqual(self.objects.read(item, "b"), 3)
        self.objects.erase(item, "a")
        self.assertEqual(self.objects.cells(item), [("unset",), ("set", 3), ("unset",), ("unset",)])
        self.assert_refused(NotSet, self.objects.erase, item, "a", name="a")

    def test_the_room(self):
        item = self.objects.new(5)
        self.objects.write(item, "v", 1)
        self.objects.write(item, "x", 2)
        self.assertIsNone(self.objects.erase(item, "v"))
        self.assertEqual(self.objects.room(item), [("x", 2)])
        for name in ("v", "y"):
            self.assert_refused(NoName, self.objects.erase, item, name, name=name)

    def test_no_room(self):
        item = self.objects.new(2)
        for name in ("a", "v", "x"):
            self.assert_refused(NoName, self.objects.erase, item, name, name=name)

    def test_the_room_keeps_a_name_while_a_field_is_found(self):
        item = self.objects.new(4)
        self.objects.write(item, "c", 1)
        drop_value(self.world, 4, "c")
        self.assert_refused(NotSet, self.objects.erase, item, "c", name="c")
        self.objects.write(item, "c", 2)
        self.objects.erase(item, "c")
        self.assertEqual([self.objects.room(item), self.objects.cells(item)[3]], [[("c", 1)], ("unset",)])
        set_value(self.world, 4, "c", 5)
        self.objects.erase(item, "c")
        self.assertEqual([self.objects.room(item), self.objects.read(item, "c")], [[], 5])


class SetClass(Case):

    def setUp(self):
        self.world = World()
        for bases, fields, roomy in [
            ([0], ["a", "b"], False), ([0], ["a"], False), ([2], ["b"], False), ([1], [], True), ([3], [], True),
            ([0], ["a", "c"], False), ([1], ["c"], False), ([0], [], False),
        ]:
            self.world.make_class(bases, fields, roomy=roomy)
        self.objects = Objects(self.world)

    def test_cells_and_room_stay(self):
        item = self.objects.new(4)
        self.objects.write(item, "b", 1)
        self.objects.write(item, "x", 2)
        self.assertIsNone(self.objects.set_class(item, 5))
        self.assertEqual([self.objects.class_of(item), self.objects.read(item, "b")], [5, 1])
        self.assertEqual([self.objects.cells(item), self.objects.room(item)], [[("unset",), ("set", 1)], [("x", 2)]])
        self.assertEqual(self.objects.alive(), [item])

    def test_living_moves_along(self):
        items = [self.objects.new(number) for number in (1, 1, 3)]
        self.objects.set_class(items[0], 3)
        self.assertEqual([self.world.living(number) for number in range(9)], [0, 1, 0, 2, 0, 0, 0, 0, 0])
        self.objects.set_class(items[0], 3)
        self.assertEqual([self.world.living(number) for number in range(9)], [0, 1, 0, 2, 0, 0, 0, 0, 0])
        self.objects.drop(items[0])
        self.assertEqual([self.world.living(number) for number in range(9)], [0, 1, 0, 1, 0, 0, 0, 0, 0])

    def test_what_is_found_is_that_of_the_new_class(self):
        set_value(self.world, 3, "a", "hides")
        item = self.objects.new(1)
        self.objects.write(item, "a", 1)
        self.objects.set_class(item, 3)
        self.assertEqual(self.objects.read(item, "a"), "hides")
        self.objects.set_class(item, 1)
        self.assertEqual(self.objects.read(item, "a"), 1)

    def test_other_layouts(self):
        before = picture_of_world(self.world)
        for old, new, offset in [
            (1, 0, 0), (0, 1, 0), (1, 2, 1), (2, 1, 1), (1, 4, 2), (4, 1, 2), (1, 6, 1), (1, 7, 2), (7, 1, 2),
            (7, 6, 1),
        ]:
            item = self.objects.new(old)
            self.assert_keeps(
                lambda: [picture_of_objects(self.objects), picture_of_world(self.world)], OtherLayout,
                self.objects.set_class, item, new, offset=offset, why="other layout",
            )
            self.objects.drop(item)
        self.assertEqual(picture_of_world(self.world), before)

    def test_twins(self):
        twins = [[0, 8], [1, 3], [2], [1, 3], [4, 5], [4, 5], [6], [7], [0, 8]]
        self.assertEqual([self.objects.twins(number) for number in range(9)], twins)

    def test_twins_are_what_set_class_takes(self):
        for old, new in itertools.product(range(9), repeat=2):
            item = self.objects.new(old)
            if new in self.objects.twins(old):
                self.objects.set_class(item, new)
                self.assertEqual(self.objects.class_of(item), new)
            else:
                self.assertRaises(OtherLayout, self.objects.set_class, item, new)
            self.objects.drop(item)

    def test_layouts_are_those_behind_a_change(self):
        set_bases(self.world, 8, [1])
        self.assertEqual([self.objects.twins(1), self.objects.twins(0)], [[1, 3, 8], [0]])


class Wrong(Start):

    def setUp(self):
        super().setUp()
        for number in (1, 3, 5):
            self.objects.new(number)
        self.objects.drop(1)
        self.objects.write(0, "a", 1)
        self.objects.write(2, "x", 2)
        self.not_objects = not_numbers(1, 3, 40, "2", EqualToAll())

    def test_no_object(self):
        for thing in self.not_objects:
            for call in ("drop", "class_of", "cells", "room"):
                self.assert_refused(NoObject, getattr(self.objects, call), thing, number=thing, why="object")
            for call, rest in [("read", ["a"]), ("write", ["a", 1]), ("erase", ["a"]), ("set_class", [1])]:
                self.assert_refused(NoObject, getattr(self.objects, call), thing, *rest, number=thing)

    def test_no_object_comes_ahead_of_all_else(self):
        for thing in (1, True, [], None):
            self.assert_refused(NoObject, self.objects.read, thing, "A", number=thing)
            self.assert_refused(NoObject, self.objects.write, thing, "A", None, number=thing)
            self.assert_refused(NoObject, self.objects.write, thing, "a", None, number=thing)
            self.assert_refused(NoObject, self.objects.erase, thing, [], number=thing)
            self.assert_refused(NoObject, self.objects.set_class, thing, True, number=thing)

    def test_no_class(self):
        for thing in not_numbers(6, 25, "1"):
            self.assert_refused(NoClass, self.objects.new, thing, number=thing, why="class")
            self.assert_refused(NoClass, self.objects.twins, thing, number=thing)
            self.assert_refused(NoClass, self.objects.set_class, 0, thing, number=thing)

    def test_no_class_comes_ahead_of_too_many(self):
        for _ in range(38):
            self.objects.new(0)
        self.assert_refused(NoClass, self.objects.new, 6, number=6)
        self.assert_refused(NoClass, self.objects.new, True, number=True)
        self.assert_refused(TooMany, self.objects.new, 0, limit=40)

    def test_no_name(self):
        for thing in not_names():
            for item in (0, 2):
                self.assert_refused(BadName, self.objects.read, item, thing, name=thing)
                self.assert_refused(BadName, self.objects.write, item, thing, 1, name=thing)
                self.assert_refused(BadName, self.objects.write, item, thing, None, name=thing)
                self.assert_refused(BadName, self.objects.erase, item, thing, name=thing)

    def test_names_of_eight_letters(self):
        self.objects.write(2, "abcdefgh", 1)
        self.assertEqual(self.objects.read(2, "abcdefgh"), 1)
        self.objects.erase(2, "abcdefgh")
        self.assert_refused(NoName, self.objects.read, 2, "abcdefgh", name="abcdefgh")

    def test_no_value(self):
        for thing in not_values():
            for item, name in [(0, "a"), (0, "v"), (0, "x"), (2, "a"), (2, "x")]:
                self.assert_refused(BadValue, self.objects.write, item, name, thing, why="value")


class Answers(Start):

    def test_lists_belong_to_the_caller(self):
        item = self.objects.new(3)
        self.objects.write(item, "a", 1)
        self.objects.write(item, "x", 2)
        before = copy.deepcopy(self.picture())
        for ask in (self.objects.alive, lambda: self.objects.cells(item), lambda: self.objects.room(item),
                    lambda: self.objects.twins(3)):
            first = ask()
            self.assertIs(type(first), list)
            self.assertIsNot(ask(), first)
            copied = list(first)
            first.append("more")
            first[0] = "other"
            self.assertEqual(ask(), copied)
        self.assertEqual(self.picture(), before)

    def test_asking_changes_nothing(self):
        item = self.objects.new(3)
        self.objects.write(item, "v", 2)
        before = copy.deepcopy(self.picture())
        for _ in range(2):
            self.assertEqual([self.objects.read(item, "v"), self.objects.class_of(item)], [2, 3])
            self.assertEqual(self.objects.twins(3), [3, 4])
            self.assertEqual(self.picture(), before)


if __name__ == "__main__":
    unittest.main()
