"""Finding: points 4.1 to 4.5, and 0.2 to 0.4 for them."""

import copy
import itertools
import unittest

from layoutline.changes import set_value
from layoutline.errors import BadList, BadName, NoClass
from layoutline.finding import could_meet, find, hidden, names_of, reader
from layoutline.worlds import World
from tests.helpers import (
    Case, EqualToAll, not_names, not_numbers, odd_values, picture_of_world, world_of_lines,
)


def mixed_world():
    """Return a world of six classes in which fields and values hide one another."""
    world = World()
    world.make_class([0], ["a", "b"], pairs=[("c", 1), ("d", (1, "x"))])
    world.make_class([1], ["c"], pairs=[("a", 2)])
    world.make_class([2], ["a", "e"], pairs=[("d", 3)])
    world.make_class([0], [], pairs=[("a", 4), ("f", 5)])
    world.make_class([4, 3], [])
    return world


class Find(Case):

    def test_fields_with_their_offsets(self):
        world = World()
        world.make_class([0], ["a", "b"])
        world.make_class([1], [])
        world.make_class([2], ["c", "b"])
        found = [find(world, 3, name) for name in "abc"]
        self.assertEqual(found, [("field", 1, 0), ("field", 3, 3), ("field", 3, 2)])
        self.assertEqual([find(world, 2, name) for name in "abc"], [("field", 1, 0), ("field", 1, 1), None])

    def test_values(self):
        world = World()
        world.make_class([0], [], pairs=[("a", (1, ("x",)))])
        world.make_class([0], [], pairs=[("a", 2), ("b", "")])
        world.make_class([1, 2], [])
        world.make_class([2, 1], [])
        self.assertEqual([find(world, 3, "a"), find(world, 3, "b")], [("value", 1, (1, ("x",))), ("value", 2, "")])
        self.assertEqual([find(world, 4, "a"), find(world, 0, "a")], [("value", 2, 2), None])

    def test_the_first_class_in_the_order_that_declares_the_name(self):
        world = mixed_world()
        self.assertEqual([find(world, 1, name) for name in "abcdef"], [
            ("field", 1, 0), ("field", 1, 1), ("value", 1, 1), ("value", 1, (1, "x")), None, None,
        ])
        self.assertEqual([find(world, 2, name) for name in "abcdef"], [
            ("value", 2, 2), ("field", 1, 1), ("field", 2, 2), ("value", 1, (1, "x")), None, None,
        ])
        self.assertEqual([find(world, 3, name) for name in "abcdef"], [
            ("field", 3, 3), ("field", 1, 1), ("field", 2, 2), ("value", 3, 3), ("field", 3, 4), None,
        ])
        self.assertEqual([find(world, 5, name) for name in "abcdef"], [
            ("value", 4, 4), ("field", 1, 1), ("field", 2, 2), ("value", 3, 3), ("field", 3, 4), ("value", 4, 5),
        ])

    def test_the_offset_is_that_of_the_layout(self):
        world = mixed_world()
        for number, name in itertools.product(range(6), "abcdef"):
            found = find(world, number, name)
            if found is not None and found[0] == "field":
                self.assertEqual(found[2], world.layout(number).offset_of(name))
                self.assertIn(name, world.fields(found[1]))

    def test_nothing(self):
        self.assertIsNone(find(World(), 0, "a"))
        self.assertIsNone(find(mixed_world(), 5, "abcdefgh"))
        self.assertIsNone(find(mixed_world(), 0, "a"))

    def test_values_that_look_like_nothing_are_found(self):
        for value in (0, "", ()):
            world = World()
            world.make_class([0], [], pairs=[("a", value)])
            self.assertEqual([find(world, 1, "a"), reader(world, 1, "a")], [("value", 1, value), ("value", 1)])


class Reader(Case):

    def test_what_find_returns(self):
        world = mixed_world()
        self.assertEqual([reader(world, 5, name) for name in "abcdef"], [
            ("value", 4), ("field", 1), ("field", 2), ("value", 3), ("field", 4), ("value", 4),
        ])
        for number, name in itertools.product(range(6), "abcdef"):
            found = find(world, number, name)
            wanted = found
            if found is not None:
                wanted = ("field", found[2]) if found[0] == "field" else ("value", found[1])
            self.assertEqual(reader(world, number, name), wanted)

    def test_nothing(self):
        self.assertIsNone(reader(World(), 0, "a"))
        self.assertIsNone(reader(mixed_world(), 2, "f"))


class Names(Case):

    def test_names_of(self):
        world = mixed_world()
        names = [[], list("abcd"), list("abcd"), list("abcde"), list("af"), list("abcdef")]
        self.assertEqual([names_of(world, number) for number in range(6)], names)

    def test_names_are_sorted_as_words(self):
        world = World()
        world.make_class([0], ["zz", "b", "abcdefgh", "ba"], pairs=[("aa", 1), ("z", 1)])
        self.assertEqual(names_of(world, 1), ["aa", "abcdefgh", "b", "ba", "z", "zz"])

    def test_hidden(self):
        world = mixed_world()
        rows = [
            [], [], [(1, "a"), (1, "c")], [(1, "a"), (1, "c"), (1, "d"), (2, "a")], [],
            [(1, "a"), (1, "c"), (1, "d"), (2, "a"), (3, "a")],
        ]
        self.assertEqual([hidden(world, number) for number in range(6)], rows)

    def test_hidden_goes_by_numbers_and_not_by_the_order(self):
        world = World()
        world.make_class([0], [], pairs=[("b", 1), ("a", 1)])
        world.make_class([0], ["b", "a"])
        world.make_class([2, 1], [], pairs=[("a", 2), ("b", 2)])
        self.assertEqual(hidden(world, 3), [(1, "a"), (1, "b"), (2, "a"), (2, "b")])

    def test_class_0_may_be_hidden_where_it_has_values(self):
        world = mixed_world()
        set_value(world, 0, "a", 0)
        set_value(world, 0, "g", 0)
        self.assertEqual(hidden(world, 4), [(0, "a")])
        self.assertEqual([names_of(world, 0), names_of(world, 4)], [["a", "g"], ["a", "f", "g"]])

    def test_each_declaration_is_found_or_hidden(self):
        world = mixed_world()
        for number in range(6):
            found = [(find(world, number, name)[1], name) for name in names_of(world, number)]
            declared = [
                (place, name) for place in world.order(number)
                for name in [*world.fields(place), *[name for name, value in world.values(place)]]
            ]
            self.assertEqual(sorted(found + hidden(world, number)), sorted(declared))


class Meeting(Case):

    def setUp(self):
        self.world = world_of_lines()

    def test_owners_on_one_line(self):
        for numbers in [[], [0], [4], [4, 4], [1, 2], [2, 1], [5, 2, 1, 0, 7], [6, 3, 4, 3, 6], [0, 0, 7, 7]]:
            self.assertIsNone(could_meet(self.world, numbers))

    def test_owners_on_no_line(self):
        for numbers, told in [
            ([2, 3], ((2, 3), 1, ("b", "c"))),
            ([3, 2], ((3, 2), 1, ("c", "b"))),
            ([5, 4], ((2, 3), 1, ("b", "c"))),
            ([1, 0, 5, 2, 6], ((2, 6), 1, ("b", "c"))),
            ([0, 1, 2, 3], ((2, 3), 1, ("b", "c"))),
            ([0, 1, 7, 3, 2], ((3, 2), 1, ("c", "b"))),
            ([7, 0, 1, 4, 3, 6, 2], ((3, 2), 1, ("c", "b"))),
            ([1, 8], ((1, 8), 0, ("a", "a"))),
            ([6, 8, 2], ((6, 8), 0, ("a", "a"))),
            ([4, 4, 2, 2], ((3, 2), 1, ("c", "b"))),
            ([2, 1, 4, 8], ((2, 3), 1, ("b", "c"))),
            ([1, 2, 4, 8], ((1, 8), 0, ("a", "a"))),
        ]:
            found = could_meet(self.world, numbers)
            self.assertEqual(found, told)
            self.assertEqual([type(found), type(found[0]), type(found[2])], [tuple, tuple, tuple])

    def test_it_tells_what_make_class_raises(self):
        for numbers in itertools.permutations(range(9), 3):
            found = could_meet(self.world, list(numbers))
            if found is not None:
                owners, offset, names = found
                self.assert_collides(lambda: self.world.make_class(list(numbers), []), 9, owners, offset, names)

    def test_more_than_five_classes(self):
        self.assertIsNone(could_meet(self.world, [0, 1, 3, 4, 6, 7] * 9))


class Wrong(Case):

    def setUp(self):
        self.world = mixed_world()
        self.before = picture_of_world(self.world)

    def tearDown(self):
        self.assertEqual(picture_of_world(self.world), self.before)

    def test_no_class(self):
        for thing in not_numbers(6, 25):
            for call in (names_of, hidden):
                self.assert_raises(NoClass, call, self.world, thing, number=thing)
            for call in (find, reader):
                self.assert_raises(NoClass, call, self.world, thing, "a", number=thing)
            self.assert_raises(NoClass, could_meet, self.world, [thing], number=thing)
            self.assert_raises(NoClass, could_meet, self.world, [1, 1, thing, 6, None], number=thing)

    def test_the_first_value_that_is_no_class(self):
        for first, second in itertools.permutations([6, True, -1, "1", [0], EqualToAll()], 2):
            self.assert_raises(NoClass, could_meet, self.world, [5, 3, first, second], number=first)

    def test_no_class_comes_ahead_of_no_name(self):
        for thing in (6, True, [], None):
            for name in (1, "A", [], None):
                for call in (find, reader):
                    self.assert_raises(NoClass, call, self.world, thing, name, number=thing)

    def test_no_name(self):
        for thing in not_names():
            for call in (find, reader):
                self.assert_raises(BadName, call, self.world, 5, thing, name=thing)
        self.assertIsNone(find(self.world, 5, "abcdefgh"))

    def test_no_list(self):
        for thing in [*odd_values(), 0, True, "", "a", (0,), (1, 2), {0: 0}]:
            self.assert_raises(BadList, could_meet, self.world, thing, why="classes")


class Answers(Case):

    def test_lists_belong_to_the_caller(self):
        world = mixed_world()
        wanted = [names_of(world, 5), hidden(world, 5), picture_of_world(world)]
        names_of(world, 5).append("x")
        names_of(world, 5).clear()
        hidden(world, 5).clear()
        self.assertEqual([names_of(world, 5), hidden(world, 5), picture_of_world(world)], wanted)

    def test_arguments_are_not_changed(self):
        world = mixed_world()
        numbers = [5, 1, 1, 3]
        could_meet(world, numbers)
        self.assertEqual(numbers, [5, 1, 1, 3])

    def test_calls_repeated_are_equal_and_change_nothing(self):
        world = mixed_world()
        before = picture_of_world(world)

        def answers():
            return [
                [names_of(world, number), hidden(world, number), could_meet(world, [number, 3]),
                 [(find(world, number, name), reader(world, number, name)) for name in "abcdefg"]]
                for number in range(6)
            ]
        first = copy.deepcopy(answers())
        self.assertEqual(answers(), first)
        self.assertEqual(picture_of_world(world), before)


if __name__ == "__main__":
    unittest.main()
