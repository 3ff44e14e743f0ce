"""Worlds: points 3.1 to 3.7 where nothing is wrong, and 0.2 to 0.4 for them."""

import copy
import itertools
import unittest

from layoutline.errors import NoClass, TooMany
from layoutline.layouts import Layout
from layoutline.objects import Objects
from layoutline.worlds import World
from tests.helpers import Case, chain, nested, not_numbers, picture_of_world, values


def world_of(*classes):
    """Return a world of classes given by their bases and fields."""
    world = World()
    for bases, fields in classes:
        world.make_class(bases, fields)
    return world


class ClassZero(Case):

    def test_a_new_world(self):
        world = World()
        self.assertEqual(world.count(), 1)
        self.assertEqual(picture_of_world(world), [([], [], [], False, [0], 0, [0], [], False, [], 0)])
        self.assertEqual(world.layout(0), Layout([]))

    def test_worlds_do_not_share_anything(self):
        one, other = World(), World()
        one.make_class([0], ["a"], roomy=True, pairs=[("b", 1)])
        self.assertEqual(picture_of_world(other), picture_of_world(World()))
        self.assertEqual(other.make_class([0], []), 1)
        self.assertEqual([other.fields(1), other.values(1), one.fields(1)], [[], [], ["a"]])


class Numbers(Case):

    def test_classes_are_numbered_as_they_are_made(self):
        world = World()
        for number in range(1, 25):
            made = world.make_class([number - 1], [])
            self.assertEqual(made, number)
            self.assertIs(type(made), int)
            self.assertEqual(world.count(), number + 1)

    def test_at_most_25_classes(self):
        world = World()
        chain(world, 23)
        self.assertEqual(world.count(), 24)
        self.assertEqual(world.make_class([0], ["a"]), 24)
        self.assertEqual(world.count(), 25)
        for _ in range(2):
            self.assert_keeps(lambda: picture_of_world(world), TooMany, world.make_class, [0], [], limit=25)
        self.assertEqual([world.count(), world.fields(24)], [25, ["a"]])

    def test_an_impossible_class_uses_no_number(self):
        world = world_of(([0], []))
        self.assert_no_order(lambda: world.make_class([0, 1], []), 2, [[0], [1, 0], [0, 1]])
        self.assertEqual(world.make_class([1, 0], []), 2)


class MakeClass(Case):

    def test_bases_and_fields_stand_in_their_places(self):
        world = World()
        self.assertRaises(TypeError, world.make_class, [0], [], True)
        self.assertRaises(TypeError, world.make_class, [0], [], False, ())

    def test_one_to_five_bases(self):
        for many in range(1, 6):
            world = world_of(*[([0], []) for _ in range(5)])
            bases = list(range(1, many + 1))
            self.assertEqual(world.make_class(bases, []), 6)
            self.assertEqual(world.bases(6), bases)
            self.assertEqual(world.order(6), [6, *bases, 0])

    def test_bases_keep_their_order(self):
        for bases in itertools.permutations([1, 2, 3]):
            world = world_of(([0], []), ([0], []), ([0], []), (list(bases), []))
            self.assertEqual(world.bases(4), list(bases))
            self.assertEqual(world.order(4), [4, *bases, 0])

    def test_none_to_six_fields(self):
        names = ["f", "abcdefgh", "zz", "a", "b", "c"]
        for many in range(7):
            world = world_of(([0], names[:many]))
            self.assertEqual(world.fields(1), names[:many])
            self.assertEqual(world.layout(1), Layout(names[:many]))

    def test_none_to_six_values(self):
        pairs = [("f", 6), ("abcdefgh", ""), ("zz", ()), ("a", -1), ("b", "b"), ("c", (1, ("x",)))]
        for many in range(7):
            for kind in (list, tuple):
                world = World()
                world.make_class([0], [], pairs=kind(pairs[:many]))
                self.assertEqual(world.values(1), sorted(pairs[:many]))

    def test_six_fields_beside_six_values(self):
        world = World()
        world.make_class([0], list("abcdef"), roomy=True, pairs=[(name, name) for name in "lkjihg"])
        self.assertEqual(world.fields(1), list("abcdef"))
        self.assertEqual(world.values(1), [(name, name) for name in "ghijkl"])
        self.assertIs(world.declares_room(1), True)

    def test_values_of_every_kind(self):
        for value in values():
            world = World()
            number = world.make_class([0], [], pairs=[("a", value)])
            self.assertEqual(world.values(number), [("a", value)])
            self.assertIs(type(world.values(number)[0][1]), type(value))

    def test_values_may_be_nested_four_deep(self):
        world = World()
        world.make_class([0], [], pairs=(("a", nested(4)), ("b", (nested(3), 1, (2, "x")))))
        self.assertEqual(world.values(1), [("a", ((((),),),)), ("b", (((((),),)), 1, (2, "x")))])

    def test_names_of_classes_above_may_come_again(self):
        world = World()
        world.make_class([0], ["a", "b"], pairs=[("c", 1), ("d", 2)])
        world.make_class([1], ["a", "c"], pairs=[("b", 3), ("d", 4)])
        self.assertEqual(world.layout(2).fields(), ["a", "b", "a", "c"])
        self.assertEqual(world.values(2), [("b", 3), ("d", 4)])
        self.assertEqual(world.values(1), [("c", 1), ("d", 2)])

    def test_arguments_are_neither_changed_nor_kept(self):
        world = world_of(([0], []))
        bases, fields, pairs = [1, 0], ["b", "a"], [("d", 1), ("c", (2,))]
        copies = copy.deepcopy([bases, fields, pairs])
        number = world.make_class(bases, fields, pairs=pairs)
        self.assertEqual([bases, fields, pairs], copies)
        before = picture_of_world(world)
        bases.clear()
        fields.append("z")
        pairs[0] = ("z", 0)
        self.assertEqual(picture_of_world(world), before)
        self.assertEqual([world.bases(number), world.fields(number)], copies[:2])


class Orders(Case):

    def test_orders_known_by_hand(self):
        world = world_of(
            ([0], []), ([0], []), ([0], []), ([1, 2], []), ([2, 3], []), ([4, 5], []), ([1], []), ([7, 4], []),
        )
        orders = [[0], [1, 0], [2, 0], [3, 0], [4, 1, 2, 0], [5, 2, 3, 0], [6, 4, 1, 5, 2, 3, 0], [7, 1, 0]]
        self.assertEqual([world.order(number) for number in range(8)], orders)
        self.assertEqual(world.order(8), [8, 7, 4, 1, 2, 0])

    def test_the_list_of_the_bases_counts(self):
        # The orders of the bases alone would let 2 stand ahead of 1.
        world = world_of(([0], []), ([0], []), ([0], []), ([3, 2], []), ([1, 4], []))
        self.assertEqual(world.order(5), [5, 1, 4, 3, 2, 0])
        world.make_class([2, 1], [])
        self.assertEqual(world.order(6), [6, 2, 1, 0])
        self.assert_no_order(
            lambda: world.make_class([5, 6], []), 7, [[5, 1, 4, 3, 2, 0], [6, 2, 1, 0], [5, 6]]
        )

    def test_no_order_by_the_list_of_the_bases(self):
        world = world_of(([0], []), ([1], []))
        self.assert_no_order(lambda: world.make_class([0, 2], []), 3, [[0], [2, 1, 0], [0, 2]])
        self.assert_no_order(lambda: world.make_class([1, 2], []), 3, [[1, 0], [2, 1, 0], [1, 2]])
        self.assertEqual(world.count(), 3)

    def test_no_order_by_orders_of_the_bases(self):
        world = world_of(([0], []), ([0], []), ([1, 2], []), ([2, 1], []))
        lists = [[3, 1, 2, 0], [4, 2, 1, 0], [3, 4]]
        self.assert_no_order(lambda: world.make_class([3, 4], ["a"], roomy=True), 5, lists)

    def test_a_class_stands_ahead_of_all_classes_above_it(self):
        world = world_of(([0], []), ([0], []), ([1, 2], []), ([2], []), ([3, 4], []), ([1, 4], []))
        for number in range(world.count()):
            order = world.order(number)
            self.assertEqual(order[0], number)
            for at, place in enumerate(order):
                self.assertLessEqual(set(world.order(place)), set(order[at:]))

    def test_25_classes_in_one_order(self):
        world = World()
        chain(world, 24)
        self.assertEqual(world.order(24), list(range(24, -1, -1)))
        self.assertEqual(world.line(24), [0])


class Lines(Case):

    def test_owners_and_lines(self):
        world = world_of(([0], ["a"]), ([1], []), ([2], ["b"]), ([3, 2], []), ([0], []), ([5, 4], ["c"]), ([0], ["a"]))
        self.assertEqual([world.owner(number) for number in range(8)], [0, 1, 1, 3, 3, 0, 6, 7])
        lines = [[0], [1, 0], [1, 0], [3, 1, 0], [3, 1, 0], [0], [6, 3, 1, 0], [7, 0]]
        self.assertEqual([world.line(number) for number in range(8)], lines)
        self.assertEqual([type(world.owner(number)) for number in range(8)], [int] * 8)

    def test_the_owner_of_the_bases_may_stand_anywhere_among_them(self):
        for bases in itertools.permutations([4, 5, 6]):
            world = world_of(([0], ["a"]), ([1], ["b"]), ([2], ["c"]), ([1], []), ([2], []), ([3], []))
            world.make_class(list(bases), [])
            self.assertEqual(world.line(7), [3, 2, 1, 0])
            self.assertEqual(world.layout(7).fields(), ["a", "b", "c"])

    def test_a_class_with_values_and_room_only_is_no_owner(self):
        world = World()
        world.make_class([0], [], roomy=True, pairs=[("a", 1)])
        self.assertEqual([world.owner(1), world.line(1)], [0, [0]])

    def test_owners_on_no_line(self):
        world = world_of(([0], ["x"]), ([0], ["y"]))
        self.assert_collides(lambda: world.make_class([1, 2], []), 3, (1, 2), 0, ("x", "y"))
        self.assert_collides(lambda: world.make_class([2, 1], []), 3, (2, 1), 0, ("y", "x"))
        self.assert_collides(lambda: world.make_class([0, 2, 1], []), 3, (2, 1), 0, ("y", "x"))

    def test_fields_of_one_name_collide_too(self):
        world = world_of(([0], ["x"]), ([0], ["x"]))
        self.assert_collides(lambda: world.make_class([1, 2], []), 3, (1, 2), 0, ("x", "x"))

    def test_fields_of_the_class_do_not_help(self):
        world = world_of(([0], ["x"]), ([0], ["y"]))
        self.assert_collides(lambda: world.make_class([1, 2], ["z"]), 3, (1, 2), 0, ("x", "y"))

    def test_the_owners_are_those_of_the_bases(self):
        world = world_of(([0], ["x", "y"]), ([1], ["a"]), ([2], []), ([1], []), ([4], ["b", "c"]), ([5], []))
        self.assert_collides(lambda: world.make_class([3, 6], []), 7, (2, 5), 2, ("a", "b"))
        self.assert_collides(lambda: world.make_class([6, 4, 1, 3], []), 7, (5, 2), 2, ("b", "a"))

    def test_the_offset_is_behind_the_fields_of_the_first_owner_that_both_have(self):
        world = world_of(
            ([0], ["a", "b"]), ([1], ["c"]), ([2], ["d"]), ([3], ["e", "f"]), ([2], ["g", "h", "i"]), ([5], ["j"]),
        )
        self.assert_collides(lambda: world.make_class([4, 6], []), 7, (4, 6), 3, ("d", "g"))
        self.assert_collides(lambda: world.make_class([6, 3], []), 7, (6, 3), 3, ("g", "d"))

    def test_which_of_several_pairs(self):
        world = world_of(([0], ["a"]), ([0], ["b"]), ([0], ["c"]), ([1], ["d"]), ([1], []))
        for bases, owners, names in [
            ([1, 2, 3], (1, 2), "ab"), ([0, 1, 3, 2], (1, 3), "ac"), ([1, 4, 3, 2], (1, 3), "ac"),
            ([4, 1, 2], (4, 2), "ab"), ([5, 1, 2, 3], (1, 2), "ab"), ([0, 5, 4, 3], (1, 3), "ac"),
        ]:
            self.assert_collides(lambda: world.make_class(bases, []), 6, owners, 0, tuple(names))


class Layouts(Case):

    def test_fields_of_the_owner_of_the_bases_then_the_own_ones(self):
        world = world_of(([0], ["x"]), ([1], ["y", "x"]), ([0], []), ([3, 2, 1], ["a"]))
        layouts = [[], ["x"], ["x", "y", "x"], [], ["x", "y", "x", "a"]]
        self.assertEqual([world.layout(number) for number in range(5)], [Layout(fields) for fields in layouts])

    def test_fields_of_owners_are_a_beginning(self):
        world = world_of(([0], ["x"]), ([1], ["y"]), ([1], []), ([2, 3], ["x"]), ([4], []))
        for number in range(world.count()):
            for place in world.order(number):
                if world.fields(place):
                    self.assertIn(place, world.line(number))
                    self.assertTrue(world.layout(place) <= world.layout(number))

    def test_the_room_comes_from_the_class_or_any_base(self):
        world = World()
        world.make_class([0], [], roomy=True)
        world.make_class([0], ["a"])
        world.make_class([2, 1], [])
        world.make_class([2, 1], ["b"])
        world.make_class([4, 3], [])
        world.make_class([2], [], roomy=True)
        rooms = [world.layout(number).has_room() for number in range(7)]
        self.assertEqual(rooms, [False, True, False, True, True, True, True])
        declared = [world.declares_room(number) for number in range(7)]
        self.assertEqual(declared, [False, True, False, False, False, False, True])
        self.assertEqual(world.layout(3), Layout(["a"], True))
        self.assertEqual(world.layout(5), Layout(["a", "b"], True))

    def test_layouts_of_many_fields(self):
        world = World()
        for number in range(1, 25):
            world.make_class([number - 1], list("abcdef"))
        self.assertEqual(world.layout(24), Layout(list("abcdef") * 24))
        self.assertEqual(world.line(24), list(range(24, -1, -1)))


class Asking(Case):

    def setUp(self):
        self.world = World()
        self.world.make_class([0], ["b", "a"], pairs=[("d", 1), ("c", (2, (3,)))])
        self.world.make_class([1], [], roomy=True)
        self.world.make_class([2, 0], ["a"])
        self.asked = {
            name: getattr(self.world, name) for name in
            ("order", "line", "owner", "layout", "living", "bases", "fields", "below", "values", "declares_room")
        }

    def test_answers(self):
        world = self.world
        self.assertEqual(world.count(), 4)
        self.assertEqual([world.bases(number) for number in range(4)], [[], [0], [1], [2, 0]])
        self.assertEqual([world.fields(number) for number in range(4)], [[], ["b", "a"], [], ["a"]])
        self.assertEqual([world.values(number) for number in range(4)], [[], [("c", (2, (3,))), ("d", 1)], [], []])
        self.assertEqual([world.declares_room(number) for number in range(4)], [False, False, True, False])
        self.assertEqual([type(world.declares_room(number)) for number in range(4)], [bool] * 4)

    def test_below(self):
        world = world_of(([0], []), ([0], []), ([1, 2], []), ([2], []), ([4, 3], []), ([0], []))
        below = [[1, 2, 3, 4, 5, 6], [3, 5], [3, 4, 5], [5], [5], [], []]
        self.assertEqual([world.below(number) for number in range(7)], below)

    def test_living(self):
        world = self.world
        one, other = Objects(world), Objects(world)
        for number in (1, 1, 3):
            one.new(number)
        other.new(1)
        self.assertEqual([world.living(number) for number in range(4)], [0, 3, 0, 1])
        one.drop(0)
        other.drop(0)
        self.assertEqual([world.living(number) for number in range(4)], [0, 1, 0, 1])

    def test_no_class(self):
        before = picture_of_world(self.world)
        for ask in self.asked.values():
            for thing in not_numbers(4, 5, 25, [1], "1"):
                self.assert_raises(NoClass, ask, thing, number=thing)
        self.assertEqual(picture_of_world(self.world), before)

    def test_returned_lists_belong_to_the_caller(self):
        before = picture_of_world(self.world)
        for word in ("order", "line", "bases", "fields", "below", "values"):
            for number in range(4):
                self.asked[word](number).append("more")
                self.asked[word](number).clear()
        self.assertEqual(picture_of_world(self.world), before)
        self.world.layout(1).fields().clear()
        self.assertEqual(picture_of_world(self.world), before)

    def test_lists_are_new_each_time(self):
        for word in ("order", "line", "bases", "fields", "below", "values"):
            self.assertIsNot(self.asked[word](1), self.asked[word](1))
            self.assertIs(type(self.asked[word](1)), list)

    def test_lists_in_a_ring_belong_to_the_caller(self):
        lists = [[0], [1, 0], [0, 1]]
        with self.assertRaises(Exception) as caught:
            self.world.make_class([0, 1], [])
        caught.exception.ring.clear()
        self.assert_no_order(lambda: self.world.make_class([0, 1], []), 4, lists)
        self.assertEqual(self.world.bases(1), [0])


if __name__ == "__main__":
    unittest.main()
