"""What make_class refuses, and in which order: point 3.3, and 0.3 for it."""

import itertools
import unittest

from layoutline.errors import BadList, BadName, BadValue, Duplicate, HasRoom, NoClass, TooMany
from layoutline.worlds import World
from tests.helpers import (
    NOT_NAMES, WRONG_BASES, Case, EqualToAll, chain, not_names, not_numbers, not_values, odd_values, picture_of_world,
)

# For each argument, wrong ones in the order in which their errors are stated, and each with faults stated later.
WRONG_FIELDS = [
    (("a", "no list"), BadList, {"why": "fields"}),
    (["a", "a", "b", "c", "d", "B", "C"], BadName, {"name": "B"}),
    (["a", "b", "c", "d", "e", "b", "a"], Duplicate, {"thing": "b"}),
    (["a", "b", "c", "d", "e", "f", "g"], TooMany, {"limit": 6}),
]
WRONG_ROOMS = [(1, BadList, {"why": "room"})]
WRONG_PAIRS = [
    ([("P", None), ["q", 1]], BadList, {"why": "values"}),
    ([("p", None), ("p", 1), ("P", 1), ("Q", 1)], BadName, {"name": "P"}),
    ([("p", 1), ("p", 2), ("q", None)], BadValue, {}),
    ([(name, 1) for name in ["p", "q", "r", "s", "t", "u", "q", "p"]], Duplicate, {"thing": "q"}),
    ([(name, 1) for name in "pqrstuv"], TooMany, {"limit": 6}),
]


class Bases(Case):

    def setUp(self):
        self.world = World()
        chain(self.world, 7)

    def assert_refused(self, bases, kind, **fields):
        def call():
            self.world.make_class(bases, [])
        self.assert_keeps(lambda: picture_of_world(self.world), kind, call, **fields)

    def test_no_list(self):
        for bases in [*odd_values(), 0, 1, True, "", "0", (0,), (1, 0), [], {0: 0}, self.world]:
            self.assert_refused(bases, BadList, why="bases")

    def test_items_that_are_no_classes(self):
        for thing in not_numbers(8, 25, [0]):
            self.assert_refused([thing], NoClass, number=thing)
            self.assert_refused([1, thing, 0], NoClass, number=thing)

    def test_the_first_item_that_is_no_class(self):
        for first, second in itertools.permutations([8, True, -1, "1", [0], EqualToAll()], 2):
            self.assert_refused([2, 1, first, second], NoClass, number=first)

    def test_the_class_itself_is_no_class_yet(self):
        self.assert_refused([8], NoClass, number=8)

    def test_the_first_duplicate(self):
        self.assert_refused([0, 0], Duplicate, thing=0)
        self.assert_refused([3, 2, 1, 2, 3], Duplicate, thing=2)
        self.assert_refused([3, 2, 1, 0, 7, 6, 5, 7, 0], Duplicate, thing=7)

    def test_one_is_no_duplicate_of_true(self):
        self.assert_refused([1, True], NoClass, number=True)

    def test_too_many(self):
        self.assert_refused([6, 5, 4, 3, 2, 1], TooMany, limit=5)
        self.assert_refused([7, 6, 5, 4, 3, 2, 1, 0], TooMany, limit=5)
        self.assertEqual(self.world.make_class([5, 4, 3, 2, 1], []), 8)


class Fields(Case):

    def assert_refused(self, fields, kind, **told):
        world = World()
        self.assert_keeps(lambda: picture_of_world(world), kind, world.make_class, [0], fields, **told)

    def test_no_list(self):
        for fields in [*odd_values(), 0, True, "", "ab", ("a",)]:
            self.assert_refused(fields, BadList, why="fields")

    def test_items_that_are_no_names(self):
        for thing in not_names():
            self.assert_refused([thing], BadName, name=thing)
            self.assert_refused(["a", "a", thing, "B"], BadName, name=thing)

    def test_names_of_eight_and_nine_letters(self):
        self.assertEqual(World().make_class([0], ["abcdefgh"]), 1)
        self.assert_refused(["abcdefghi"], BadName, name="abcdefghi")

    def test_the_first_duplicate(self):
        self.assert_refused(["a", "a"], Duplicate, thing="a")
        self.assert_refused(["a", "b", "c", "b", "a"], Duplicate, thing="b")

    def test_too_many(self):
        self.assert_refused(list("abcdefg"), TooMany, limit=6)
        self.assert_refused(list("abcdefgh"), TooMany, limit=6)


class Rooms(Case):

    def test_no_bool(self):
        world = World()
        for thing in [*odd_values(), 0, 1, "", "True", [], [True], (False,)]:
            def call():
                world.make_class([0], ["a"], roomy=thing)
            self.assert_keeps(lambda: picture_of_world(world), BadList, call, why="room")


class Pairs(Case):

    def assert_refused(self, pairs, kind, fields=(), **told):
        world = World()

        def call():
            world.make_class([0], list(fields), pairs=pairs)
        self.assert_keeps(lambda: picture_of_world(world), kind, call, **told)

    def test_no_list_or_tuple(self):
        others = [thing for thing in odd_values() if not isinstance(thing, tuple)]
        for pairs in [*others, 0, True, "", "ab", {"a": 1}, dict(a=1).items(), {("a", 1)}, ("a", 1)]:
            self.assert_refused(pairs, BadList, why="values")

    def test_items_that_are_no_tuples_of_length_two(self):
        for thing in [*odd_values(), 0, True, "ab", "a", ["a", 1], ("a",), ("a", 1, 2), (("a", 1),), [("a", 1)]]:
            for kind in (list, tuple):
                self.assert_refused(kind([thing]), BadList, why="values")
                self.assert_refused(kind([("a", 1), thing]), BadList, why="values")

    def test_names_that_are_none(self):
        for thing in not_names():
            self.assert_refused([(thing, 1)], BadName, name=thing)
            self.assert_refused((("a", 1), ("a", None), (thing, 1), ("B", 1)), BadName, name=thing)

    def test_names_of_eight_and_nine_letters(self):
        world = World()
        world.make_class([0], [], pairs=[("abcdefgh", 1)])
        self.assertEqual(world.values(1), [("abcdefgh", 1)])
        self.assert_refused([("abcdefghi", 1)], BadName, name="abcdefghi")

    def test_values_that_are_none(self):
        for thing in not_values():
            self.assert_refused([("a", thing)], BadValue, why="value")
            self.assert_refused((("a", 1), ("a", 2), ("b", thing)), BadValue, why="value")

    def test_the_first_duplicate(self):
        self.assert_refused([("a", 1), ("a", 1)], Duplicate, thing="a")
        self.assert_refused([("a", 1), ("b", 2), ("b", 3), ("a", 4)], Duplicate, thing="b")

    def test_a_name_that_is_a_field(self):
        self.assert_refused([("a", 1)], Duplicate, fields="a", thing="a")
        self.assert_refused([("c", 1), ("b", 1), ("c", 1)], Duplicate, fields="ab", thing="b")
        self.assert_refused([("c", 1), ("c", 1), ("b", 1)], Duplicate, fields="ab", thing="c")

    def test_too_many(self):
        self.assert_refused([(name, 1) for name in "abcdefg"], TooMany, limit=6)
        self.assert_refused(tuple((name, 1) for name in "abcdefgh"), TooMany, limit=6)


class Impossible(Case):
    """Collision, NoOrder and HasRoom, in this order."""

    def setUp(self):
        self.world = World()
        self.world.make_class([0], ["a"], roomy=True)
        self.world.make_class([0], ["b"])
        self.world.make_class([1], [])

    def test_a_collision_first(self):
        self.assert_collides(lambda: self.world.make_class([0, 1, 2], [], roomy=True), 4, (1, 2), 0, ("a", "b"))

    def test_then_no_order(self):
        lists = [[1, 0], [3, 1, 0], [1, 3]]
        self.assert_no_order(lambda: self.world.make_class([1, 3], [], roomy=True), 4, lists)

    def test_then_the_room(self):
        def call(*bases):
            self.world.make_class(list(bases), ["c"], roomy=True)
        self.assert_raises(HasRoom, call, 3, 1, number=4, base=3, why="room")
        self.assert_raises(HasRoom, call, 1, 0, number=4, base=1)
        self.assert_raises(HasRoom, call, 3, number=4, base=3)
        self.world.make_class([0], [])
        self.assert_raises(HasRoom, call, 4, 3, number=5, base=3)

    def test_nothing_changes(self):
        before = picture_of_world(self.world)
        for bases, roomy in [([1, 2], False), ([0, 1], False), ([1, 3], True), ([3], True), ([0, 3, 1], True)]:
            self.assertRaises(ValueError, self.world.make_class, bases, ["c"], roomy=roomy, pairs=[("d", 1)])
            self.assertEqual(picture_of_world(self.world), before)
        self.assertEqual(self.world.make_class([3, 1], []), 4)


class Places(Case):
    """Each error has its place among all others."""

    def full_world(self, many):
        """Return a world of so many classes, of which 1 and 2 stand in a ring, collide and have the room."""
        world = World()
        world.make_class([0], ["a"], roomy=True)
        world.make_class([0], ["b"])
        for _ in range(many - 3):
            world.make_class([0], [])
        return world

    def test_all_faults_of_all_arguments_at_once(self):
        rows = [
            [([0, 1, 2], None, {}), *WRONG_BASES],
            [(["x"], None, {}), *WRONG_FIELDS],
            [(True, None, {}), *WRONG_ROOMS],
            [([("y", 1)], None, {}), *WRONG_PAIRS],
        ]
        for many in (24, 25):
            world = self.full_world(many)
            before = picture_of_world(world)
            for chosen in itertools.product(*rows):
                (bases, *_), (fields, *_), (roomy, *_), (pairs, *_) = chosen

                def call():
                    world.make_class(bases, fields, roomy=roomy, pairs=pairs)
                faults = [(kind, told) for _, kind, told in chosen if kind is not None]
                if faults:
                    self.assert_raises(faults[0][0], call, **faults[0][1])
                elif many == 25:
                    self.assert_raises(TooMany, call, limit=25)
                else:
                    self.assert_collides(call, 24, (1, 2), 0, ("a", "b"))
            self.assertEqual(picture_of_world(world), before)

    def test_a_bad_name_comes_ahead_of_a_name_that_is_a_field(self):
        for name in NOT_NAMES:
            def call():
                World().make_class([0], ["a"], pairs=[("a", 1), (name, 1)])
            self.assert_raises(BadName, call, name=name)

    def test_a_full_world_comes_ahead_of_what_is_impossible(self):
        world = self.full_world(25)
        for bases in ([1, 2], [0, 3], [1]):
            self.assert_raises(TooMany, lambda: world.make_class(bases, [], roomy=True), limit=25)


if __name__ == "__main__":
    unittest.main()
