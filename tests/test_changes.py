"""Changes of classes: points 6.1 to 6.5, and 0.2 to 0.4 for them."""

import copy
import itertools
import unittest

from layoutline.changes import drop_value, set_bases, set_value, spoilt_by
from layoutline.errors import (
    BadList, BadName, BadValue, BelowItself, Duplicate, HasRoom, LayoutMoves, LineError, NoClass, NoName, TooMany,
)
from layoutline.finding import find, reader
from layoutline.layouts import Layout
from layoutline.objects import Objects
from layoutline.worlds import World
from tests.helpers import (
    Case, EqualToAll, chain, not_names, not_numbers, not_values, odd_values, picture_of_objects, picture_of_world,
    values,
)


def world_of(*classes):
    """Return a world of classes given by bases, fields and perhaps the room."""
    world = World()
    for bases, fields, *roomy in classes:
        world.make_class(bases, fields, roomy=bool(roomy))
    return world


class SetValue(Case):

    def test_a_new_value(self):
        world = world_of(([0], ["x"]), ([1], []))
        self.assertEqual(set_value(world, 1, "b", 1), [(1, "b"), (2, "b")])
        self.assertEqual(set_value(world, 1, "a", (2,)), [(1, "a"), (2, "a")])
        self.assertEqual(world.values(1), [("a", (2,)), ("b", 1)])
        self.assertEqual(find(world, 2, "a"), ("value", 1, (2,)))

    def test_another_value_spoils_nothing(self):
        world = world_of(([0], []), ([1], []))
        set_value(world, 1, "a", 1)
        for value in values():
            self.assertEqual(set_value(world, 1, "a", value), [])
            self.assertEqual(world.values(1), [("a", value)])
            self.assertEqual(find(world, 2, "a"), ("value", 1, value))

    def test_a_value_that_hides_a_field(self):
        world = world_of(([0], ["x"]), ([1], []), ([2], []), ([1], []))
        self.assertEqual(set_value(world, 2, "x", 1), [(2, "x"), (3, "x")])
        self.assertEqual([find(world, number, "x")[0] for number in (1, 2, 3, 4)], ["field", "value", "value", "field"])

    def test_a_value_that_is_hidden_itself(self):
        world = world_of(([0], []), ([1], ["x"]), ([2], []), ([1], []))
        self.assertEqual(set_value(world, 1, "x", 1), [(1, "x"), (4, "x")])
        self.assertEqual(set_value(world, 0, "x", 1), [(0, "x")])

    def test_class_0_may_have_values(self):
        world = world_of(([0], ["x"]), ([1], []), ([0], []))
        self.assertEqual(set_value(world, 0, "x", 1), [(0, "x"), (3, "x")])
        self.assertEqual(set_value(world, 0, "y", 1), [(number, "y") for number in range(4)])
        self.assertEqual([world.values(0), world.layout(0)], [[("x", 1), ("y", 1)], Layout([])])

    def test_spoilt_readers_by_several_orders(self):
        world = world_of(([0], []), ([0], []), ([1, 2], []), ([2, 1], []))
        self.assertEqual(set_value(world, 2, "a", 1), [(2, "a"), (3, "a"), (4, "a")])
        self.assertEqual(set_value(world, 1, "a", 1), [(1, "a"), (3, "a")])

    def test_six_values_and_seven(self):
        world = world_of(([0], ["x"]))
        for name in "fedcba":
            set_value(world, 1, name, name)
        self.assertEqual(world.values(1), [(name, name) for name in "abcdef"])
        self.assert_keeps(lambda: picture_of_world(world), TooMany, set_value, world, 1, "g", 1, limit=6)
        self.assertEqual(set_value(world, 1, "a", 1), [])
        self.assertEqual(drop_value(world, 1, "b"), [(1, "b")])
        self.assertEqual(set_value(world, 1, "g", 1), [(1, "g")])
        self.assert_raises(TooMany, set_value, world, 1, "b", 1, limit=6)

    def test_names_of_eight_letters(self):
        world = World()
        self.assertEqual(set_value(world, 0, "abcdefgh", 1), [(0, "abcdefgh")])
        self.assert_raises(BadName, set_value, world, 0, "abcdefghi", 1, name="abcdefghi")
        self.assertEqual(drop_value(world, 0, "abcdefgh"), [(0, "abcdefgh")])

    def test_names_above_and_below_do_not_matter(self):
        world = world_of(([0], ["x"]), ([1], []), ([2], ["x"]))
        set_value(world, 2, "x", 1)
        self.assertEqual([world.values(number) for number in range(4)], [[], [], [("x", 1)], []])


class DropValue(Case):

    def test_the_values_of_a_class(self):
        world = World()
        world.make_class([0], [], pairs=[("b", 1), ("a", 2)])
        world.make_class([1], [])
        self.assertEqual(drop_value(world, 1, "a"), [(1, "a"), (2, "a")])
        self.assertEqual([world.values(1), find(world, 2, "a")], [[("b", 1)], None])
        self.assert_raises(NoName, drop_value, world, 1, "a", name="a")

    def test_what_was_hidden_is_found(self):
        world = world_of(([0], ["x"]), ([1], []), ([2], []))
        set_value(world, 2, "x", 1)
        set_value(world, 3, "x", 2)
        self.assertEqual(drop_value(world, 2, "x"), [(2, "x")])
        self.assertEqual(drop_value(world, 3, "x"), [(3, "x")])
        self.assertEqual(find(world, 3, "x"), ("field", 1, 0))

    def test_a_hidden_value(self):
        world = world_of(([0], []), ([1], ["x"]))
        set_value(world, 1, "x", 1)
        self.assertEqual(drop_value(world, 1, "x"), [(1, "x")])

    def test_class_0(self):
        world = world_of(([0], []))
        set_value(world, 0, "a", 1)
        self.assertEqual([drop_value(world, 0, "a"), world.values(0)], [[(0, "a"), (1, "a")], []])


class WrongValues(Case):

    def setUp(self):
        self.world = World()
        self.world.make_class([0], ["x", "y"], pairs=[("a", 1), ("b", 2)])
        self.world.make_class([1], [], pairs=[(name, 1) for name in "abcdef"])

    def assert_refused(self, kind, call, *arguments, **fields):
        self.assert_keeps(lambda: picture_of_world(self.world), kind, call, self.world, *arguments, **fields)

    def test_no_class(self):
        for thing in not_numbers(3, 25):
            self.assert_refused(NoClass, set_value, thing, "a", 1, number=thing)
            self.assert_refused(NoClass, drop_value, thing, "a", number=thing)

    def test_no_name(self):
        for thing in not_names():
            self.assert_refused(BadName, set_value, 1, thing, 1, name=thing)
            self.assert_refused(BadName, drop_value, 1, thing, name=thing)

    def test_no_value(self):
        for thing in not_values():
            for name in ("a", "z", "x"):
                self.assert_refused(BadValue, set_value, 1, name, thing, why="value")

    def test_a_field_of_the_class(self):
        for name in ("x", "y"):
            self.assert_refused(Duplicate, set_value, 1, name, 1, thing=name)
        self.assertEqual(set_value(self.world, 0, "x", 1), [(0, "x")])

    def test_no_value_by_the_name(self):
        for number, name in [(1, "z"), (1, "x"), (2, "x"), (0, "a"), (1, "c")]:
            self.assert_refused(NoName, drop_value, number, name, name=name)

    def test_the_first_stated_error_is_raised(self):
        self.world.make_class([0], ["x"], pairs=[(name, 1) for name in "abcdef"])
        self.assert_refused(NoClass, set_value, 4, "A", None, number=4)
        self.assert_refused(NoClass, set_value, True, "x", None, number=True)
        self.assert_refused(BadName, set_value, 3, "X", None, name="X")
        self.assert_refused(BadValue, set_value, 3, "x", None)
        self.assert_refused(BadValue, set_value, 3, "z", True)
        self.assert_refused(Duplicate, set_value, 3, "x", 1, thing="x")
        self.assert_refused(TooMany, set_value, 3, "z", 1, limit=6)
        self.assert_refused(NoClass, drop_value, 4, "A", number=4)
        self.assert_refused(BadName, drop_value, 3, "A", name="A")


class SetBases(Case):

    def test_what_changes(self):
        world = world_of(([0], ["x"]), ([0], ["y"]), ([0], ["z"]), ([3], ["w"]), ([0], []))
        self.assertEqual(set_bases(world, 3, [5, 1]), [(3, "x"), (3, "z"), (4, "w"), (4, "x"), (4, "z")])
        self.assertEqual([world.bases(3), world.order(3), world.line(3)], [[5, 1], [3, 5, 1, 0], [3, 1, 0]])
        self.assertEqual([world.order(4), world.line(4)], [[4, 3, 5, 1, 0], [4, 3, 1, 0]])
        self.assertEqual([world.layout(3).fields(), world.layout(4).fields()], [["x", "z"], ["x", "z", "w"]])
        self.assertEqual([world.below(1), world.below(5), world.below(0)], [[3, 4], [3, 4], [1, 2, 3, 4, 5]])

    def test_what_does_not_change(self):
        world = world_of(([0], ["x"]), ([0], ["y"]), ([2], []), ([3], ["z"]), ([1], []))
        set_value(world, 3, "v", 1)
        before = picture_of_world(world)
        set_bases(world, 3, [1])
        after = picture_of_world(world)
        self.assertEqual([after[0], after[5]], [before[0], before[5]])
        for number in (1, 2):
            self.assertEqual(after[number][:9], before[number][:9])
        for number in (3, 4):
            self.assertEqual(after[number][1:4], before[number][1:4])

    def test_the_room_comes_and_goes(self):
        world = world_of(([0], [], True), ([0], ["x"]), ([2], []), ([3], []))
        self.assertEqual(set_bases(world, 3, [2, 1]), [])
        self.assertEqual([world.layout(3), world.layout(4)], [Layout(["x"], True)] * 2)
        set_bases(world, 3, [2])
        self.assertEqual([world.layout(3), world.layout(4)], [Layout(["x"])] * 2)
        self.assertEqual([world.declares_room(number) for number in range(5)], [False, True, False, False, False])

    def test_bases_may_have_greater_numbers(self):
        world = world_of(([0], []), ([0], ["x"]), ([2], []))
        self.assertEqual(set_bases(world, 1, [3]), [(1, "x")])
        self.assertEqual([world.order(1), world.below(3), world.below(2)], [[1, 3, 2, 0], [1], [1, 3]])
        self.assertEqual(world.make_class([1], ["y"]), 4)
        self.assertEqual(world.layout(4).fields(), ["x", "y"])

    def test_the_same_bases_spoil_nothing(self):
        world = world_of(([0], ["x"]), ([1], []), ([2, 1], ["y"]))
        before = picture_of_world(world)
        for number in (1, 2, 3):
            self.assertEqual(set_bases(world, number, world.bases(number)), [])
        self.assertEqual(picture_of_world(world), before)

    def test_the_order_of_the_bases_alone(self):
        world = world_of(([0], []), ([0], []), ([1, 2], []), ([3], []))
        set_value(world, 1, "a", 1)
        set_value(world, 2, "a", 2)
        set_value(world, 2, "b", 2)
        self.assertEqual(set_bases(world, 3, [2, 1]), [(3, "a"), (4, "a")])
        self.assertEqual([world.order(4), world.bases(3)], [[4, 3, 2, 1, 0], [2, 1]])

    def test_fields_that_move_spoil_their_readers(self):
        world = world_of(([0], ["a"]), ([0], ["x"]), ([0], ["x", "b"]), ([2], ["y"]), ([4], []))
        set_value(world, 5, "x", 1)
        self.assertEqual(set_bases(world, 4, [3]), [(4, "b"), (4, "y"), (5, "b"), (5, "y")])
        self.assertEqual([reader(world, 4, "x"), reader(world, 4, "y")], [("field", 0), ("field", 2)])

    def test_a_reader_of_another_class_at_the_same_offset_is_not_spoilt(self):
        world = world_of(([0], ["x"]), ([0], ["x"]), ([1], []))
        self.assertEqual(set_bases(world, 3, [2]), [])
        self.assertEqual(find(world, 3, "x"), ("field", 2, 0))

    def test_a_value_of_another_class_is_another_reader(self):
        world = world_of(([0], []), ([0], []), ([1], []))
        set_value(world, 1, "a", 1)
        set_value(world, 2, "a", 1)
        self.assertEqual(set_bases(world, 3, [2]), [(3, "a")])

    def test_one_to_five_bases(self):
        world = world_of(*[([0], []) for _ in range(8)])
        for many in range(1, 6):
            bases = list(range(2, 2 + many))
            set_bases(world, 1, bases)
            self.assertEqual([world.bases(1), world.order(1)], [bases, [1, *bases, 0]])
        self.assert_keeps(
            lambda: picture_of_world(world), TooMany, set_bases, world, 1, [2, 3, 4, 5, 6, 7], limit=5
        )

    def test_a_world_of_25_classes(self):
        world = World()
        chain(world, 24)
        self.assertEqual(set_bases(world, 1, [0]), [])
        self.assertEqual(set_bases(world, 24, [12]), [])
        self.assertEqual(world.order(24), [24, *range(12, -1, -1)])

    def test_the_argument_is_neither_changed_nor_kept(self):
        world = world_of(([0], []), ([0], []), ([0], []))
        bases = [1, 2]
        set_bases(world, 3, bases)
        self.assertEqual(bases, [1, 2])
        bases.clear()
        self.assertEqual(world.bases(3), [1, 2])


class WrongBases(Case):

    def setUp(self):
        self.world = World()
        chain(self.world, 3)
        for _ in range(6):
            self.world.make_class([0], [])

    def assert_refused(self, place, bases, kind, **fields):
        for call in (set_bases, spoilt_by):
            self.assert_keeps(lambda: picture_of_world(self.world), kind, call, self.world, place, bases, **fields)

    def test_no_class(self):
        for thing in not_numbers(10, 25):
            self.assert_refused(thing, [0], NoClass, number=thing)
            self.assert_refused(thing, None, NoClass, number=thing)

    def test_no_list(self):
        for bases in [*odd_values(), 0, True, "", (0,), [], {0: 0}]:
            self.assert_refused(1, bases, BadList, why="bases")

    def test_items_that_are_no_classes(self):
        for thing in not_numbers(10, 25):
            self.assert_refused(1, [2, 2, thing, 11], NoClass, number=thing)
        for first, second in itertools.permutations([10, True, [0], EqualToAll()], 2):
            self.assert_refused(1, [1, first, second], NoClass, number=first)

    def test_duplicates_and_too_many(self):
        self.assert_refused(1, [4, 1, 5, 5, 4, 6], Duplicate, thing=5)
        self.assert_refused(1, [1, 2, 3, 4, 5, 6], TooMany, limit=5)

    def test_below_itself(self):
        self.assert_refused(2, [2], BelowItself, base=2, why="below")
        self.assert_refused(2, [0, 4, 3, 2], BelowItself, base=3)
        self.assert_refused(2, [1, 2, 3], BelowItself, base=2)
        self.assert_refused(1, [4, 3, 1], BelowItself, base=3)
        self.assert_refused(1, [0, 3], BelowItself, base=3)

    def test_class_0_never_gets_bases(self):
        for number in range(10):
            self.assert_refused(0, [number], BelowItself, base=number)
        self.assert_refused(0, [3, 0], BelowItself, base=3)
        self.assert_refused(0, [], BadList, why="bases")

    def test_below_itself_comes_ahead_of_faults(self):
        world = world_of(([0], ["x"]), ([0], ["y"]), ([1], []))
        for call in (set_bases, spoilt_by):
            self.assert_raises(BelowItself, call, world, 1, [0, 2, 3], base=3)


class Faults(Case):
    """What set_bases and spoilt_by refuse as it makes a class impossible: point 6.4."""

    def assert_fault(self, world, number, bases, check, *told):
        """Check what both calls raise, by a check that takes the call first, and that nothing changes."""
        before = picture_of_world(world)
        for call in (set_bases, spoilt_by):
            check(lambda: call(world, number, bases), *told)
            self.assertEqual(picture_of_world(world), before)

    def assert_moves(self, world, number, bases, place, offset):
        for call in (set_bases, spoilt_by):
            self.assert_keeps(
                lambda: picture_of_world(world), LayoutMoves, call, world, number, bases,
                number=place, offset=offset, why="layout",
            )

    def test_a_collision_of_the_class(self):
        world = world_of(([0], ["x"]), ([0], ["y"]), ([0], []))
        self.assert_fault(world, 3, [1, 2], self.assert_collides, 3, (1, 2), 0, ("x", "y"))

    def test_a_collision_of_a_class_below(self):
        world = world_of(([0], ["x"]), ([0], ["y", "z"]), ([1], []), ([1], []), ([3, 4], []))
        self.assert_fault(world, 3, [2], self.assert_collides, 5, (2, 1), 0, ("y", "x"))
        self.assert_fault(world, 4, [2], self.assert_collides, 5, (1, 2), 0, ("x", "y"))

    def test_a_collision_shows_the_new_layouts(self):
        world = world_of(
            ([0], ["p"]), ([1], ["a"]), ([1], ["b", "c"]), ([2], []), ([4], ["y"]), ([2], []), ([5, 6], []),
        )
        self.assert_fault(world, 4, [3], self.assert_collides, 7, (5, 2), 1, ("b", "a"))
        self.assert_fault(world, 4, [0], self.assert_collides, 7, (5, 2), 0, ("y", "p"))
        self.assert_fault(world, 4, [1], self.assert_collides, 7, (5, 2), 1, ("y", "a"))

    def test_no_order_of_the_class(self):
        world = world_of(([0], []), ([0], []))
        self.assert_fault(world, 2, [0, 1], self.assert_no_order, 2, [[0], [1, 0], [0, 1]])

    def test_no_order_of_a_class_below(self):
        world = world_of(([0], []), ([0], []), ([1, 2], []), ([1], []), ([3, 4], []))
        lists = [[3, 1, 2, 0], [4, 2, 1, 0], [3, 4]]
        self.assert_fault(world, 4, [2, 1], self.assert_no_order, 5, lists)

    def test_the_room_of_the_class(self):
        world = world_of(([0], [], True), ([0], []), ([0], [], True), ([1], []))
        for call in (set_bases, spoilt_by):
            self.assert_raises(HasRoom, call, world, 3, [2, 4, 1], number=3, base=4, why="room")

    def test_the_room_of_a_class_below(self):
        world = world_of(([0], [], True), ([0], []), ([2], []), ([0], []), ([4, 3], [], True))
        for call in (set_bases, spoilt_by):
            self.assert_keeps(
                lambda: picture_of_world(world), HasRoom, call, world, 2, [1], number=5, base=3
            )

    def test_a_class_may_have_all_three_faults(self):
        world = world_of(([0], ["a"], True), ([0], ["b"]), ([1], []), ([0], [], True))
        self.assert_fault(world, 4, [0, 1, 2], self.assert_collides, 4, (1, 2), 0, ("a", "b"))
        self.assert_fault(world, 4, [1, 3], self.assert_no_order, 4, [[1, 0], [3, 1, 0], [1, 3]])
        for call in (set_bases, spoilt_by):
            self.assert_raises(HasRoom, call, world, 4, [3, 1], number=4, base=3)

    def test_a_layout_with_objects_must_not_move(self):
        world = world_of(([0], ["x", "y"]), ([0], ["x", "z"]), ([1], []), ([3], ["w"]), ([0], ["x"]), ([0], [], True))
        objects = Objects(world)
        item = objects.new(3)
        self.assert_moves(world, 3, [2], 3, 1)
        self.assert_moves(world, 3, [0], 3, 0)
        self.assert_moves(world, 3, [5], 3, 1)
        self.assert_moves(world, 3, [1, 6], 3, 2)
        self.assert_moves(world, 1, [2], 3, 1)
        objects.drop(item)
        self.assertEqual(set_bases(world, 3, [2])[0], (3, "y"))

    def test_a_layout_of_a_class_below_must_not_move(self):
        world = world_of(([0], ["x"]), ([0], ["y"]), ([1], []), ([3], ["z"]))
        objects = Objects(world)
        objects.new(4)
        self.assert_moves(world, 3, [2], 4, 0)
        self.assert_moves(world, 3, [0], 4, 0)
        objects.new(3)
        self.assert_moves(world, 3, [2], 3, 0)

    def test_objects_of_other_classes_do_not_matter(self):
        world = world_of(([0], ["x"]), ([0], ["y"]), ([1], []))
        objects = Objects(world)
        for number in (0, 1, 2):
            objects.new(number)
        self.assertEqual(set_bases(world, 3, [2]), [(3, "x"), (3, "y")])

    def test_objects_of_all_kept_ones_count(self):
        world = world_of(([0], ["x"]), ([0], []))
        one, other = Objects(world), Objects(world)
        items = [one.new(2), other.new(2)]
        self.assert_moves(world, 2, [1], 2, 0)
        one.drop(items[0])
        self.assert_moves(world, 2, [1], 2, 0)
        other.drop(items[1])
        self.assertEqual(set_bases(world, 2, [1]), [(2, "x")])

    def test_an_equal_layout_does_not_move(self):
        world = world_of(([0], ["x"], True), ([0], ["x"]), ([2], [], True), ([1], []), ([0], ["y"]), ([4, 0], []))
        set_value(world, 2, "v", 1)
        objects = Objects(world)
        for number in (4, 6, 6):
            objects.write(objects.new(number), "x", number)
        before = picture_of_objects(objects)
        self.assertEqual(set_bases(world, 4, [3]), [(4, "v"), (6, "v")])
        self.assertEqual(picture_of_objects(objects), before)
        self.assertEqual([world.line(6), objects.read(1, "v")], [[2, 0], 1])
        self.assert_moves(world, 4, [2], 4, 1)

    def test_an_object_that_got_another_class_counts_there(self):
        world = world_of(([0], ["x"]), ([1], []), ([1], []))
        objects = Objects(world)
        item = objects.new(2)
        objects.set_class(item, 3)
        self.assert_moves(world, 3, [0], 3, 0)
        self.assertEqual(set_bases(world, 2, [0]), [(2, "x")])

    def test_faults_of_a_class_come_ahead_of_its_layout(self):
        world = world_of(([0], ["a"], True), ([0], ["b"]), ([0], ["c"], True), ([1], []))
        objects = Objects(world)
        objects.new(3)
        self.assert_fault(world, 3, [1, 2], self.assert_collides, 3, (1, 2), 0, ("a", "b"))
        self.assert_fault(world, 3, [0, 2], self.assert_no_order, 3, [[0], [2, 0], [0, 2]])
        for call in (set_bases, spoilt_by):
            self.assert_raises(HasRoom, call, world, 3, [4], number=3, base=4)
        self.assert_moves(world, 3, [2], 3, 0)

    def test_the_first_class_with_a_fault_counts_and_not_the_first_fault(self):
        world = world_of(([0], ["x"]), ([0], ["y"]), ([1], []), ([1], []), ([3, 4], []))
        objects = Objects(world)
        self.assert_fault(world, 3, [2], self.assert_collides, 5, (2, 1), 0, ("y", "x"))
        objects.new(3)
        self.assert_moves(world, 3, [2], 3, 0)


class WhichClassFirst(Case):
    """In which order the classes are looked at: point 6.4."""

    def first_fault(self, world, number, bases, living):
        """Return the class whose layout moves first, where some have living objects."""
        objects = Objects(world)
        items = [objects.new(place) for place in living]
        with self.assertRaises(LayoutMoves) as caught:
            spoilt_by(world, number, bases)
        for item in items:
            objects.drop(item)
        return caught.exception.number

    def test_the_class_itself_first(self):
        world = world_of(([0], []), ([0], ["x"]), ([0], []))
        set_bases(world, 1, [3])
        self.assertEqual(world.below(3), [1])
        self.assertEqual(self.first_fault(world, 3, [2], [1, 3]), 3)
        self.assertEqual(self.first_fault(world, 3, [2], [1]), 1)

    def test_then_the_least_number(self):
        world = world_of(([0], ["x"]), ([0], []), ([2], []), ([2], []), ([2], []))
        for living in itertools.permutations([3, 4, 5]):
            self.assertEqual(self.first_fault(world, 2, [1], living), 3)
        self.assertEqual(self.first_fault(world, 2, [1], [5, 4]), 4)

    def test_bases_ahead_of_their_subclasses(self):
        # 3 is below 5, which is below 2; 4 is below 2.
        world = world_of(([0], ["x"]), ([0], []), ([0], []), ([2], []), ([2], []))
        set_bases(world, 3, [5])
        self.assertEqual(self.first_fault(world, 2, [1], [3, 4, 5]), 4)
        self.assertEqual(self.first_fault(world, 2, [1], [3, 5]), 5)
        set_bases(world, 4, [3])
        self.assertEqual(self.first_fault(world, 2, [1], [3, 4, 5]), 5)
        self.assertEqual(self.first_fault(world, 2, [1], [3, 4]), 3)

    def test_a_number_that_becomes_free_goes_ahead_of_greater_ones(self):
        # 3 waits for 4 and then goes ahead of 5 and 6.
        world = world_of(([0], ["x"]), ([0], []), ([0], []), ([2], []), ([2], []), ([2], []))
        set_bases(world, 3, [4])
        self.assertEqual(self.first_fault(world, 2, [1], [3, 5, 6]), 3)
        self.assertEqual(self.first_fault(world, 2, [1], [3, 4, 5, 6]), 4)

    def test_all_bases_of_several_must_have_been_looked_at(self):
        # 3 has the bases 4 and 6, both below 2.
        world = world_of(([0], ["x"]), ([0], []), ([0], []), ([2], []), ([2], []), ([2], []))
        set_bases(world, 3, [4, 6])
        self.assertEqual(self.first_fault(world, 2, [1], [3, 5]), 5)
        self.assertEqual(self.first_fault(world, 2, [1], [3, 6]), 6)

    def test_bases_that_are_not_concerned_do_not_matter(self):
        # 3 has the bases 2 and 7, and 7 is not below 2.
        world = world_of(([0], ["x"]), ([0], []), ([0], []), ([2], []), ([2], []), ([2], []), ([0], []))
        set_bases(world, 3, [2, 7])
        self.assertEqual(self.first_fault(world, 2, [1], [3, 4]), 3)

    def test_a_fault_of_another_kind_in_a_class_looked_at_later(self):
        world = world_of(([0], ["x"]), ([0], ["y"]), ([0], []), ([3, 1], []), ([3], []), ([3], []))
        objects = Objects(world)
        self.assert_collides(lambda: set_bases(world, 3, [2]), 4, (2, 1), 0, ("y", "x"))
        objects.new(5)
        self.assert_collides(lambda: set_bases(world, 3, [2]), 4, (2, 1), 0, ("y", "x"))
        set_bases(world, 4, [6, 1])
        self.assert_raises(LayoutMoves, set_bases, world, 3, [2], number=5, offset=0)


class SpoiltBy(Case):

    def test_it_returns_what_set_bases_returns_and_changes_nothing(self):
        world = world_of(([0], ["x"]), ([0], ["x"]), ([1], []), ([3], ["y"]), ([0], [], True))
        set_value(world, 2, "v", 1)
        for number, bases in [(3, [2]), (3, [0]), (3, [5, 1]), (4, [2]), (4, [1, 5]), (1, [2]), (2, [3]), (5, [4])]:
            before = copy.deepcopy(picture_of_world(world))
            spoilt = spoilt_by(world, number, bases)
            self.assertEqual(spoilt_by(world, number, bases), spoilt)
            self.assertEqual(picture_of_world(world), before)
            old = world.bases(number)
            self.assertEqual(set_bases(world, number, bases), spoilt)
            self.assertEqual(set_bases(world, number, old), spoilt)
            self.assertEqual(picture_of_world(world), before)

    def test_spoilt_readers_are_those_that_changed(self):
        world = world_of(([0], ["x", "y"]), ([0], ["y"]), ([1], []), ([3], ["z"]), ([0], []))
        for number, name in [(0, "a"), (5, "x"), (3, "b"), (2, "a")]:
            set_value(world, number, name, 1)
        names = ["a", "b", "x", "y", "z"]
        keys = list(itertools.product(range(6), names))
        for bases in ([2], [0], [5, 1], [1, 5], [5], [5, 2], [2, 5]):
            before = {key: reader(world, *key) for key in keys}
            spoilt = set_bases(world, 3, bases)
            self.assertEqual(spoilt, [key for key in keys if reader(world, *key) != before[key]])


class Answers(Case):

    def test_lists_belong_to_the_caller(self):
        world = world_of(([0], ["x"]), ([0], []))
        for call in (
            lambda: set_value(world, 1, "a", 1), lambda: drop_value(world, 1, "a"), lambda: spoilt_by(world, 2, [1]),
            lambda: set_bases(world, 2, [1]),
        ):
            spoilt = call()
            self.assertIs(type(spoilt), list)
            self.assertEqual([type(row) for row in spoilt], [tuple] * len(spoilt))
            before = picture_of_world(world)
            spoilt.clear()
            self.assertEqual(picture_of_world(world), before)
        self.assertEqual(set_bases(world, 2, [0]), [(2, "x")])

    def test_a_refused_change_changes_nothing_of_objects(self):
        world = world_of(([0], ["x"]), ([0], ["y"]), ([1], [], True))
        objects = Objects(world)
        item = objects.new(3)
        objects.write(item, "x", 1)
        objects.write(item, "r", 2)
        before = [picture_of_world(world), picture_of_objects(objects)]
        for number, bases in [(3, [2]), (3, [0]), (1, [2]), (3, [1, 2]), (3, [0, 1]), (1, [3]), (3, []), (3, [9])]:
            for call in (set_bases, spoilt_by):
                self.assertRaises(LineError, call, world, number, bases)
                self.assertEqual([picture_of_world(world), picture_of_objects(objects)], before)
        self.assertEqual([objects.read(item, "x"), objects.read(item, "r")], [1, 2])


if __name__ == "__main__":
    unittest.main()
