"""Machines: points 9.1 to 9.5, and 0.2 to 0.4 for them."""

import copy
import unittest

from layoutline.changes import drop_value, set_bases, set_value
from layoutline.errors import BadList, BadName, BadValue, NoName, NoObject, NotSet
from layoutline.finding import reader
from layoutline.machines import Machine
from layoutline.objects import Objects
from layoutline.worlds import World
from tests.helpers import (
    Case, EqualToAll, Incomparable, not_names, not_numbers, not_values, odd_values, picture_of_objects,
    picture_of_world, values,
)


class Start(Case):
    """A world with objects and a machine: 1 has fields and a value, 2 and 3 are below 1, 3 to 5 have the room."""

    def setUp(self):
        self.world = World()
        self.world.make_class([0], ["a", "b"], pairs=[("v", 1)])
        self.world.make_class([1], [])
        self.world.make_class([1], ["c"], roomy=True)
        self.world.make_class([0], [], roomy=True, pairs=[("v", 4)])
        self.world.make_class([4], [])
        self.objects = Objects(self.world)
        self.machine = Machine(self.objects)

    def state(self):
        """Return all that the world and the objects tell."""
        return [picture_of_world(self.world), self.objects.alive(), picture_of_objects(self.objects)]

    def picture(self):
        """Return all that the world, the objects and the machine tell."""
        return [self.state(), self.machine.walks(), self.machine.kept(), self.machine.stale()]

    def assert_refused(self, kind, call, *arguments, **fields):
        """Check that the call raises this error and changes nothing at all."""
        self.assert_keeps(self.picture, kind, call, *arguments, **fields)

    def assert_nothing(self, item, name, room=()):
        """Check that it is as if nothing was found by the name; in the room, if there is one, stands no such name."""
        self.assert_refused(NoName, self.machine.read, item, name, name=name)
        self.assert_refused(NoName, self.machine.erase, item, name, name=name)
        before = self.objects.cells(item)
        if self.objects.room(item) is None:
            self.assert_refused(NoName, self.machine.write, item, name, 70, name=name)
            return
        self.machine.write(item, name, 70)
        self.assertEqual([self.objects.room(item), self.machine.read(item, name)], [sorted([*room, (name, 70)]), 70])
        self.machine.erase(item, name)
        self.assertEqual([self.objects.room(item), self.objects.cells(item)], [list(room), before])


class Kept(Start):

    def test_none_at_first(self):
        self.assertEqual([self.machine.walks(), self.machine.kept(), self.machine.stale()], [0, [], []])
        self.objects.new(1)
        self.objects.write(0, "a", 1)
        self.assertEqual([self.machine.walks(), self.machine.kept(), self.machine.stale()], [0, [], []])

    def test_one_walk_for_each_class_and_name(self):
        items = [self.objects.new(number) for number in (1, 1, 2, 5)]
        for at in range(3):
            for item in items[:3]:
                self.machine.write(item, "a", at)
                self.assertEqual(self.machine.read(item, "a"), at)
                self.machine.erase(item, "a")
                self.assertEqual(self.machine.read(item, "v"), 1)
            self.assertEqual(self.machine.read(items[3], "v"), 4)
            self.assertEqual(self.machine.walks(), 5)
        self.assertEqual(self.machine.kept(), [
            (1, "a", ("field", 0)), (1, "v", ("value", 1)), (2, "a", ("field", 0)), (2, "v", ("value", 1)),
            (5, "v", ("value", 4)),
        ])

    def test_each_call_walks_where_none_is_kept(self):
        item = self.objects.new(1)
        self.machine.write(item, "a", 5)
        self.assertEqual([self.machine.walks(), self.machine.kept()], [1, [(1, "a", ("field", 0))]])
        self.objects.write(item, "b", 6)
        self.machine.erase(item, "b")
        self.assertEqual([self.machine.walks(), self.machine.kept()[1:]], [2, [(1, "b", ("field", 1))]])
        self.assertEqual(self.machine.read(item, "v"), 1)
        self.assertEqual([self.machine.walks(), self.machine.kept()[2:]], [3, [(1, "v", ("value", 1))]])

    def test_a_reader_that_is_none_is_kept(self):
        item = self.objects.new(4)
        self.machine.write(item, "x", 1)
        self.assertEqual([self.machine.walks(), self.machine.kept()], [1, [(4, "x", None)]])
        self.assertEqual(self.machine.read(item, "x"), 1)
        self.machine.erase(item, "x")
        self.assert_refused(NoName, self.machine.read, item, "x", name="x")
        self.assertEqual([self.machine.walks(), self.machine.stale()], [1, []])

    def test_a_reader_is_kept_although_the_name_is_not_set(self):
        item = self.objects.new(1)
        self.assert_raises(NotSet, self.machine.read, item, "a", name="a")
        self.assertEqual([self.machine.walks(), self.machine.kept()], [1, [(1, "a", ("field", 0))]])
        self.assert_raises(NotSet, self.machine.erase, item, "b", name="b")
        self.assertEqual([self.machine.walks(), self.machine.kept()[1:]], [2, [(1, "b", ("field", 1))]])
        for call in (self.machine.read, self.machine.erase):
            for name in ("a", "b"):
                self.assert_refused(NotSet, call, item, name, name=name)

    def test_a_reader_is_kept_although_there_is_no_such_name(self):
        item, roomy = self.objects.new(2), self.objects.new(5)
        self.assert_raises(NoName, self.machine.read, item, "x", name="x")
        self.assert_raises(NoName, self.machine.write, item, "y", 1, name="y")
        self.assert_raises(NoName, self.machine.erase, item, "z", name="z")
        self.assert_raises(NoName, self.machine.write, item, "v", 1, name="v")
        self.assert_raises(NoName, self.machine.read, roomy, "x", name="x")
        self.assert_raises(NoName, self.machine.erase, roomy, "v", name="v")
        self.assertEqual([self.machine.walks(), self.machine.kept()], [6, [
            (2, "v", ("value", 1)), (2, "x", None), (2, "y", None), (2, "z", None), (5, "v", ("value", 4)),
            (5, "x", None),
        ]])
        for name in ("v", "x", "y", "z"):
            self.assert_refused(NoName, self.machine.write, item, name, 1, name=name)
        self.assertEqual(self.machine.walks(), 6)

    def test_the_reader_is_that_of_the_class_that_the_object_has_now(self):
        set_value(self.world, 2, "a", 9)
        item = self.objects.new(1)
        self.machine.write(item, "a", 5)
        self.objects.set_class(item, 2)
        self.assertEqual([self.machine.read(item, "a"), self.machine.walks()], [9, 2])
        self.objects.set_class(item, 1)
        self.assertEqual([self.machine.read(item, "a"), self.machine.walks()], [5, 2])
        self.assertEqual(self.machine.kept(), [(1, "a", ("field", 0)), (2, "a", ("value", 2))])

    def test_readers_outlive_their_objects(self):
        self.machine.write(self.objects.new(1), "a", 5)
        self.objects.drop(0)
        self.assert_refused(NoObject, self.machine.read, 0, "a", number=0)
        item = self.objects.new(1)
        self.assert_refused(NotSet, self.machine.read, item, "a", name="a")
        self.assertEqual(self.machine.walks(), 1)

    def test_each_machine_keeps_its_own(self):
        other, elsewhere = Machine(self.objects), Machine(Objects(self.world))
        item = self.objects.new(1)
        self.machine.write(item, "a", 5)
        self.assertEqual(other.read(item, "a"), 5)
        self.assertEqual(other.read(item, "v"), 1)
        self.assertEqual([machine.walks() for machine in (self.machine, other, elsewhere)], [1, 2, 0])
        other.told([(1, "a")])
        self.assertEqual([len(machine.kept()) for machine in (self.machine, other, elsewhere)], [1, 1, 0])
        self.assert_raises(NoObject, elsewhere.read, item, "a", number=item)

    def test_machine_and_objects_work_on_the_same(self):
        item = self.objects.new(3)
        self.machine.write(item, "c", 1)
        self.machine.write(item, "x", 2)
        self.assertEqual([self.objects.read(item, "c"), self.objects.read(item, "x")], [1, 2])
        self.objects.write(item, "c", 3)
        self.objects.erase(item, "x")
        self.assertEqual(self.machine.read(item, "c"), 3)
        self.assert_refused(NoName, self.machine.read, item, "x", name="x")

    def test_classes_made_later(self):
        self.machine.write(self.objects.new(1), "a", 5)
        number = self.world.make_class([1], ["a"])
        item = self.objects.new(number)
        self.machine.write(item, "a", 6)
        self.assertEqual(self.objects.cells(item), [("unset",), ("unset",), ("set", 6)])
        self.assertEqual(self.machine.kept(), [(1, "a", ("field", 0)), (number, "a", ("field", 2))])

    def test_values_of_every_kind_come_back(self):
        cell, room = self.objects.new(1), self.objects.new(5)
        for value in values():
            for item in (cell, room):
                self.assertIsNone(self.machine.write(item, "a", value))
                self.assertEqual(self.machine.read(item, "a"), value)
                self.assertIs(type(self.machine.read(item, "a")), type(value))
                self.assertIsNone(self.machine.erase(item, "a"))

    def test_the_room_goes_ahead_of_values(self):
        item = self.objects.new(5)
        self.assertEqual(self.machine.read(item, "v"), 4)
        self.machine.write(item, "v", 6)
        self.assertEqual([self.machine.read(item, "v"), self.objects.room(item)], [6, [("v", 6)]])
        self.machine.erase(item, "v")
        self.assertEqual([self.machine.read(item, "v"), self.machine.walks()], [4, 1])

    def test_the_room_keeps_a_name_while_a_field_is_found(self):
        set_value(self.world, 3, "a", 9)
        item = self.objects.new(3)
        self.machine.write(item, "a", 7)
        self.machine.told(drop_value(self.world, 3, "a"))
        self.assert_raises(NotSet, self.machine.read, item, "a", name="a")
        self.machine.write(item, "a", 8)
        self.assertEqual([self.machine.read(item, "a"), self.objects.room(item)], [8, [("a", 7)]])


class StaleFields(Start):
    """Kept readers ("field", offset) that are no longer right: point 9.2."""

    def test_the_cell_is_read_set_and_unset_although_a_value_is_found(self):
        for number, room in [(2, None), (3, [])]:
            item = self.objects.new(number)
            self.machine.write(item, "a", 5)
            set_value(self.world, number, "a", 9)
            self.assertEqual([self.objects.read(item, "a"), self.machine.read(item, "a")], [9, 5])
            self.machine.write(item, "a", 6)
            self.assertEqual([self.objects.cells(item)[0], self.objects.room(item)], [("set", 6), room])
            self.machine.erase(item, "a")
            self.assertEqual(self.objects.cells(item)[0], ("unset",))
            for call in (self.machine.read, self.machine.erase):
                self.assert_refused(NotSet, call, item, "a", name="a")
            self.assertIn((number, "a"), self.machine.stale())

    def test_the_room_does_not_matter_where_there_is_a_cell(self):
        item = self.objects.new(3)
        self.machine.write(item, "a", 5)
        set_value(self.world, 3, "a", 9)
        self.objects.write(item, "a", 7)
        self.assertEqual([self.machine.read(item, "a"), self.objects.read(item, "a")], [5, 7])
        self.machine.erase(item, "a")
        self.assert_refused(NotSet, self.machine.read, item, "a", name="a")
        self.assert_refused(NotSet, self.machine.erase, item, "a", name="a")
        self.machine.write(item, "a", 6)
        self.assertEqual([self.objects.cells(item)[0], self.objects.room(item)], [("set", 6), [("a", 7)]])

    def keep_readers_of_a_greater_layout(self, roomy):
        """Keep the readers of 6 for b at 1, c at 2 and v, and give 6 a layout of one field and perhaps the room."""
        self.world.make_class([1], ["c"])
        self.world.make_class([0], ["z"], roomy=roomy)
        number = self.world.make_class([6], [])
        item = self.objects.new(number)
        for name in "abc":
            self.machine.write(item, name, 1)
        self.objects.drop(item)
        set_bases(self.world, number, [7])
        return self.objects.new(number)

    def test_no_cell_at_the_offset_and_no_room(self):
        item = self.keep_readers_of_a_greater_layout(False)
        self.assertEqual(self.machine.stale(), [(8, "a"), (8, "b"), (8, "c")])
        self.assert_nothing(item, "b")
        self.assert_nothing(item, "c")

    def test_no_cell_at_the_offset_but_the_room(self):
        item = self.keep_readers_of_a_greater_layout(True)
        self.assert_nothing(item, "b")
        self.assert_nothing(item, "c")
        self.objects.write(item, "b", 5)
        self.assertEqual(self.machine.read(item, "b"), 5)
        self.machine.erase(item, "b")
        self.assert_nothing(item, "b")

    def test_no_cell_at_the_offset_and_a_value_now(self):
        item = self.keep_readers_of_a_greater_layout(True)
        set_value(self.world, 8, "b", 9)
        self.assertEqual(self.objects.read(item, "b"), 9)
        self.assert_nothing(item, "b")
        self.machine.write(item, "b", 3)
        self.assertEqual([self.machine.read(item, "b"), self.objects.read(item, "b")], [3, 3])

    def test_no_cell_at_the_offset_and_a_value_of_the_class_of_this_number(self):
        for roomy in (False, True):
            item = self.keep_readers_of_a_greater_layout(roomy)
            self.assertIn((8, "c", ("field", 2)), self.machine.kept())
            set_value(self.world, 2, "c", 9)
            self.assert_nothing(item, "c")
            self.setUp()

    def test_the_cell_of_another_field(self):
        for roomy in (False, True):
            item = self.keep_readers_of_a_greater_layout(roomy)
            self.assert_refused(NotSet, self.machine.read, item, "a", name="a")
            self.assert_refused(NotSet, self.machine.erase, item, "a", name="a")
            self.objects.write(item, "z", 5)
            self.assertEqual(self.machine.read(item, "a"), 5)
            self.machine.write(item, "a", 6)
            self.assertEqual([self.objects.read(item, "z"), self.machine.read(item, "z")], [6, 6])
            self.machine.erase(item, "a")
            self.assertEqual(self.objects.cells(item), [("unset",)])
            self.assertEqual(self.objects.room(item), [] if roomy else None)
            self.setUp()

    def test_a_field_at_another_offset(self):
        self.world.make_class([0], ["b", "a"])
        number = self.world.make_class([1], [])
        self.machine.write(self.objects.new(number), "a", 1)
        self.objects.drop(0)
        set_bases(self.world, number, [6])
        item = self.objects.new(number)
        self.objects.write(item, "a", 5)
        self.objects.write(item, "b", 6)
        self.assertEqual([self.machine.read(item, "a"), self.machine.read(item, "b")], [6, 6])

    def test_a_field_of_another_class_at_the_same_offset_is_right(self):
        self.world.make_class([0], ["a", "b"])
        number = self.world.make_class([1], [])
        item = self.objects.new(number)
        self.machine.write(item, "a", 5)
        self.assertEqual(set_bases(self.world, number, [6]), [(7, "v")])
        self.assertEqual([self.machine.stale(), self.machine.read(item, "a")], [[], 5])

    def test_no_field_any_more_and_an_object_with_cells(self):
        self.world.make_class([0], ["x", "y"])
        number = self.world.make_class([1], [])
        self.assertRaises(NotSet, self.machine.read, self.objects.new(number), "b")
        self.objects.drop(0)
        set_bases(self.world, number, [6])
        item = self.objects.new(number)
        self.objects.write(item, "y", 5)
        self.assert_refused(NoName, self.objects.read, item, "b", name="b")
        self.assertEqual(self.machine.read(item, "b"), 5)


class StaleValues(Start):
    """Kept readers ("value", class) that are no longer right: point 9.2."""

    def test_another_value_by_the_name_is_read(self):
        item = self.objects.new(2)
        self.assertEqual(self.machine.read(item, "v"), 1)
        set_value(self.world, 1, "v", (2, "x"))
        self.assertEqual([self.machine.read(item, "v"), self.machine.stale()], [(2, "x"), []])

    def test_the_value_is_hidden_by_that_of_a_class_ahead(self):
        item = self.objects.new(2)
        self.machine.read(item, "v")
        set_value(self.world, 2, "v", 9)
        self.assertEqual([self.objects.read(item, "v"), self.machine.read(item, "v")], [9, 1])
        set_value(self.world, 1, "v", 8)
        self.assertEqual([self.machine.read(item, "v"), self.machine.stale()], [8, [(2, "v")]])
        for call, more in [(self.machine.write, [1]), (self.machine.erase, [])]:
            self.assert_refused(NoName, call, item, "v", *more, name="v")

    def test_the_room_goes_ahead_of_the_hidden_value(self):
        item = self.objects.new(5)
        self.machine.read(item, "v")
        set_value(self.world, 5, "v", 9)
        self.assertEqual(self.machine.read(item, "v"), 4)
        self.machine.write(item, "v", 7)
        self.assertEqual([self.machine.read(item, "v"), self.objects.room(item)], [7, [("v", 7)]])
        self.machine.erase(item, "v")
        self.assertEqual([self.machine.read(item, "v"), self.objects.read(item, "v")], [4, 9])
        self.assert_refused(NoName, self.machine.erase, item, "v", name="v")

    def test_the_class_declares_no_value_by_the_name_any_more(self):
        for number, place in [(2, 1), (5, 4)]:
            item = self.objects.new(number)
            self.machine.read(item, "v")
            drop_value(self.world, place, "v")
            self.assert_nothing(item, "v")
            set_value(self.world, number, "v", 9)
            self.assert_nothing(item, "v")
            self.assertEqual(self.objects.read(item, "v"), 9)

    def test_the_room_goes_ahead_of_a_value_that_is_gone_and_comes_back(self):
        item = self.objects.new(5)
        self.machine.read(item, "v")
        drop_value(self.world, 4, "v")
        self.objects.write(item, "v", 3)
        self.assertEqual(self.machine.read(item, "v"), 3)
        set_value(self.world, 4, "v", 6)
        self.assertEqual(self.machine.read(item, "v"), 3)
        self.machine.erase(item, "v")
        self.assertEqual(self.machine.read(item, "v"), 6)

    def test_a_field_is_found_now(self):
        for number in (2, 3):
            set_value(self.world, number, "a", 9)
            item = self.objects.new(number)
            self.assertEqual(self.machine.read(item, "a"), 9)
            drop_value(self.world, number, "a")
            self.objects.write(item, "a", 5)
            self.assertEqual(self.objects.read(item, "a"), 5)
            self.assert_nothing(item, "a")
            self.assertEqual(self.objects.cells(item)[0], ("set", 5))

    def test_the_class_is_no_longer_in_the_order(self):
        number = self.world.make_class([4], [])
        item = self.objects.new(number)
        self.machine.read(item, "v")
        self.world.make_class([0], [], roomy=True)
        set_bases(self.world, number, [7])
        self.assertEqual(self.world.order(number), [6, 7, 0])
        self.assert_refused(NoName, self.objects.read, item, "v", name="v")
        self.assertEqual([self.machine.read(item, "v"), self.machine.stale()], [4, [(6, "v")]])
        set_value(self.world, 4, "v", 5)
        self.assertEqual(self.machine.read(item, "v"), 5)
        self.objects.write(item, "v", 3)
        self.assertEqual(self.machine.read(item, "v"), 3)

    def test_a_field_of_that_name_is_no_value_of_the_class(self):
        # The reader of 6 tells class 4, which is not in its order any more and whose value is gone.
        self.world.make_class([4], [])
        self.world.make_class([0], ["v"], roomy=True)
        self.assertEqual(self.machine.read(self.objects.new(6), "v"), 4)
        self.objects.drop(0)
        drop_value(self.world, 4, "v")
        set_bases(self.world, 6, [7])
        item = self.objects.new(6)
        self.objects.write(item, "v", 5)
        self.assert_nothing(item, "v")
        self.assertEqual(self.objects.read(item, "v"), 5)


class StaleNothing(Start):
    """Kept readers None that are no longer right: point 9.2."""

    def test_a_value_now(self):
        for number in (2, 5):
            item = self.objects.new(number)
            self.assertRaises(NoName, self.machine.read, item, "x")
            set_value(self.world, number, "x", 9)
            self.assertEqual(self.objects.read(item, "x"), 9)
            self.assert_nothing(item, "x")
            self.assertIn((number, "x"), self.machine.stale())

    def test_a_field_now(self):
        for roomy in (False, True):
            self.world.make_class([0], ["x"], roomy=roomy)
            number = self.world.make_class([0], [])
            self.assertRaises(NoName, self.machine.read, self.objects.new(number), "x")
            self.objects.drop(self.objects.alive()[-1])
            set_bases(self.world, number, [number - 1])
            item = self.objects.new(number)
            self.objects.write(item, "x", 5)
            self.assert_nothing(item, "x")
            self.assertEqual([self.objects.read(item, "x"), self.objects.cells(item)], [5, [("set", 5)]])


class Told(Start):

    def keep_some(self):
        """Keep the readers of 1 and 5 for a, v and x."""
        for item in (self.objects.new(1), self.objects.new(5)):
            for name in "avx":
                try:
                    self.machine.read(item, name)
                except (NoName, NotSet):
                    pass
        return [(number, name) for number, name, kept in self.machine.kept()]

    def test_readers_are_taken_away(self):
        keys = self.keep_some()
        self.assertEqual(keys, [(number, name) for number in (1, 5) for name in "avx"])
        self.assertIsNone(self.machine.told([(5, "v"), (1, "x")]))
        self.assertEqual([row[:2] for row in self.machine.kept()], [(1, "a"), (1, "v"), (5, "a"), (5, "x")])
        self.assertEqual(self.machine.walks(), 6)
        self.assertEqual([self.machine.read(1, "v"), self.machine.walks()], [4, 7])
        self.machine.told([row[:2] for row in self.machine.kept()])
        self.assertEqual(self.machine.kept(), [])

    def test_tuples_for_which_none_is_kept_do_not_matter(self):
        self.keep_some()
        before = self.picture()
        for spoilt in ([], [(0, "a"), (2, "x"), (1, "b"), (5, "abcdefgh")], [(3, "a")] * 50):
            self.assertIsNone(self.machine.told(spoilt))
            self.assertEqual(self.picture(), before)
        self.machine.told([(1, "b"), (1, "a"), (1, "a"), (4, "a")])
        self.assertEqual([row[:2] for row in self.machine.kept()][:2], [(1, "v"), (1, "x")])

    def test_a_tuple_that_was_taken_away_may_come_again(self):
        self.keep_some()
        for _ in range(3):
            self.machine.told([(1, "v")])
            self.assertEqual(len(self.machine.kept()), 5)
        self.machine.read(0, "v")
        self.assertEqual([len(self.machine.kept()), self.machine.walks()], [6, 7])

    def test_what_changes_return(self):
        item = self.objects.new(2)
        self.assertEqual(self.machine.read(item, "v"), 1)
        self.machine.told(set_value(self.world, 2, "v", 9))
        self.assertEqual([self.machine.read(item, "v"), self.machine.walks()], [9, 2])
        self.machine.told(set_value(self.world, 2, "v", 8))
        self.assertEqual([self.machine.read(item, "v"), self.machine.walks()], [8, 2])
        self.machine.told(drop_value(self.world, 2, "v"))
        self.assertEqual([self.machine.read(item, "v"), self.machine.walks()], [1, 3])
        self.world.make_class([0], ["a", "b"])
        self.machine.told(set_bases(self.world, 2, [6]))
        self.assertEqual([self.machine.kept(), self.machine.stale()], [[], []])
        self.assert_raises(NoName, self.machine.read, item, "v", name="v")
        self.assertEqual([self.machine.kept(), self.machine.walks()], [[(2, "v", None)], 4])

    def test_no_list(self):
        self.keep_some()
        for thing in [*odd_values(), 0, True, "", "a", ((1, "a"),), (1, "a"), {(1, "a")}, {(1, "a"): 1}]:
            self.assert_refused(BadList, self.machine.told, thing, why="spoilt")

    def test_items_that_are_no_tuples_of_a_class_and_a_name(self):
        self.keep_some()
        items = [
            *odd_values(), 1, True, "a", "av", [1, "a"], (1,), (1, "a", ("field", 0)), (1, "a", 0), ("a", 1),
            ((1, "a"),), *[(thing, "a") for thing in not_numbers(6, 25, "1", None)],
            *[(1, thing) for thing in not_names()],
        ]
        for thing in items:
            for spoilt in ([thing], [(1, "a"), thing], [thing, (1, "a")], [(1, "a"), thing, (5, "v")]):
                self.assert_refused(BadList, self.machine.told, spoilt, why="spoilt")

    def test_classes_that_are_there_now(self):
        self.assert_refused(BadList, self.machine.told, [(6, "a")], why="spoilt")
        self.world.make_class([0], [])
        self.assertIsNone(self.machine.told([(6, "a"), (0, "a")]))

    def test_the_list_is_not_changed(self):
        self.keep_some()
        spoilt = [(5, "v"), (1, "x"), (1, "x")]
        self.machine.told(spoilt)
        self.assertEqual(spoilt, [(5, "v"), (1, "x"), (1, "x")])


class Stale(Start):

    def test_those_that_are_not_what_reader_returns_now(self):
        items = {number: self.objects.new(number) for number in (1, 2, 5)}
        for number, name in [(5, "v"), (1, "v"), (2, "a"), (2, "v"), (1, "a"), (5, "x")]:
            try:
                self.machine.read(items[number], name)
            except (NoName, NotSet):
                pass
        self.assertEqual(self.machine.stale(), [])
        set_value(self.world, 2, "a", 1)
        set_value(self.world, 5, "x", 1)
        set_value(self.world, 5, "v", 1)
        set_value(self.world, 1, "v", 5)
        self.assertEqual(self.machine.stale(), [(2, "a"), (5, "v"), (5, "x")])
        drop_value(self.world, 1, "v")
        self.assertEqual(self.machine.stale(), [(1, "v"), (2, "a"), (2, "v"), (5, "v"), (5, "x")])
        self.assertEqual(len(self.machine.kept()), 6)

    def test_a_later_change_makes_one_right_again(self):
        item = self.objects.new(2)
        self.machine.read(item, "v")
        set_value(self.world, 2, "v", 9)
        self.assertEqual(self.machine.stale(), [(2, "v")])
        drop_value(self.world, 2, "v")
        self.assertEqual([self.machine.stale(), self.machine.read(item, "v"), self.machine.walks()], [[], 1, 1])

    def test_all_but_some_of_what_a_change_returns(self):
        for number in (1, 2, 3):
            self.machine.read(self.objects.new(number), "v")
        spoilt = drop_value(self.world, 1, "v")
        self.assertEqual(spoilt, [(1, "v"), (2, "v"), (3, "v")])
        for left in range(3):
            machine = copy.deepcopy(self.machine)
            machine.told([row for row in spoilt if row != spoilt[left]])
            self.assertEqual(machine.stale(), [spoilt[left]])
            self.assertEqual([row[:2] for row in machine.kept()], [spoilt[left]])

    def test_what_was_left_out_and_is_not_kept_is_not_stale(self):
        self.machine.read(self.objects.new(1), "v")
        spoilt = drop_value(self.world, 1, "v")
        self.machine.told(spoilt[:1])
        self.assertEqual(self.machine.stale(), [])

    def test_rows_are_ascending(self):
        for number in (5, 1, 3):
            item = self.objects.new(number)
            for name in ("zz", "b", "abcdefgh", "a", "v", "ba"):
                self.assertRaises((NoName, NotSet), self.machine.erase, item, name)
        names = ["a", "abcdefgh", "b", "ba", "v", "zz"]
        keys = [(number, name) for number in (1, 3, 5) for name in names]
        self.assertEqual(self.machine.kept(), [(*key, reader(self.world, *key)) for key in keys])
        for name in names[::-1]:
            set_value(self.world, 5, name, 1)
        for name in ("zz", "abcdefgh"):
            set_value(self.world, 1, name, 1)
        stale = [(1, "abcdefgh"), (1, "zz"), (3, "abcdefgh"), (3, "zz"), *[(5, name) for name in names]]
        self.assertEqual(self.machine.stale(), stale)


class Wrong(Start):

    def setUp(self):
        super().setUp()
        for number in (1, 3, 5):
            self.objects.new(number)
        self.objects.drop(1)
        self.machine.write(0, "a", 1)
        self.machine.write(2, "x", 2)
        self.assertRaises(NoName, self.machine.read, 2, "y")

    def test_no_object(self):
        for thing in not_numbers(1, 3, 40, "2", EqualToAll()):
            for name in ("a", "y", "A", [], None):
                self.assert_refused(NoObject, self.machine.read, thing, name, number=thing, why="object")
                self.assert_refused(NoObject, self.machine.erase, thing, name, number=thing)
                for value in (1, None):
                    self.assert_refused(NoObject, self.machine.write, thing, name, value, number=thing)

    def test_no_name(self):
        for thing in not_names():
            for item in (0, 2):
                self.assert_refused(BadName, self.machine.read, item, thing, name=thing, why="name")
                self.assert_refused(BadName, self.machine.erase, item, thing, name=thing)
                for value in (1, None):
                    self.assert_refused(BadName, self.machine.write, item, thing, value, name=thing)

    def test_no_value(self):
        for thing in not_values():
            for item, name in [(0, "a"), (0, "b"), (0, "v"), (0, "x"), (2, "x"), (2, "y"), (2, "z"), (2, "v")]:
                self.assert_refused(BadValue, self.machine.write, item, name, thing, why="value")

    def test_these_errors_make_no_walk_where_nothing_is_kept(self):
        self.assertEqual(self.machine.walks(), 3)
        self.assert_refused(NoObject, self.machine.read, 1, "b", number=1)
        self.assert_refused(BadName, self.machine.read, 0, "B", name="B")
        self.assert_refused(BadValue, self.machine.write, 0, "b", Incomparable())
        self.assertEqual([self.machine.walks(), len(self.machine.kept())], [3, 3])

    def test_a_stale_reader_does_not_hide_these_errors(self):
        self.assertEqual(self.machine.read(0, "v"), 1)
        drop_value(self.world, 1, "v")
        self.assert_refused(BadValue, self.machine.write, 0, "v", None)
        self.assert_refused(NoName, self.machine.write, 0, "v", 1, name="v")


class Answers(Start):

    def test_lists_belong_to_the_caller(self):
        item = self.objects.new(2)
        self.machine.write(item, "a", 1)
        self.machine.read(item, "v")
        drop_value(self.world, 1, "v")
        before = copy.deepcopy(self.picture())
        for ask in (self.machine.kept, self.machine.stale):
            first = ask()
            self.assertIs(type(first), list)
            self.assertEqual([type(row) for row in first], [tuple] * len(first))
            self.assertIsNot(ask(), first)
            first.reverse()
            first.append("more")
            first[0] = "other"
            self.assertEqual(self.picture(), before)

    def test_asking_changes_nothing(self):
        item = self.objects.new(4)
        self.machine.write(item, "v", 2)
        before = copy.deepcopy(self.picture())
        for _ in range(3):
            self.assertEqual([self.machine.read(item, "v"), self.machine.walks()], [2, 1])
            self.assertEqual(self.picture(), before)
        self.assertIs(type(self.machine.walks()), int)

    def test_reading_changes_no_object_and_no_class(self):
        item = self.objects.new(3)
        before = self.state()
        for name in ("a", "v", "x"):
            try:
                self.machine.read(item, name)
            except (NoName, NotSet):
                pass
        self.assertEqual([self.state(), self.machine.walks()], [before, 3])


if __name__ == "__main__":
    unittest.main()
