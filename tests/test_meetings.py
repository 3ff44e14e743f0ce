"""Meetings: points 8.1 to 8.3, and 0.2 and 0.3 for them."""

import copy
import itertools
import unittest

from layoutline.changes import set_bases
from layoutline.errors import BadList, Collision, Duplicate, NoClass, NoOrder, TooMany
from layoutline.finding import could_meet
from layoutline.meetings import base_orders, largest
from layoutline.worlds import World
from tests.helpers import Case, EqualToAll, chain, not_numbers, odd_values, picture_of_world, world_of_lines
from tests.pairs import Pair


def plain_largest(world, classes):
    """Return what largest must return, as point 8.1 says it."""
    for many in range(len(classes), -1, -1):
        # These come with the least list of indices first.
        for places in itertools.combinations(range(len(classes)), many):
            part = [classes[at] for at in places]
            if could_meet(world, part) is None:
                return part
    raise AssertionError("no part, not even []")


def plain_base_orders(world, classes):
    """Return what base_orders must return where there are less than 25 classes, as point 8.2 says it."""
    found = []
    for bases in itertools.permutations(sorted(classes)):
        try:
            copy.deepcopy(world).make_class(list(bases), [])
            found.append(list(bases))
        except (BadList, Collision, NoOrder):
            pass
    return found


class Start(Case):

    def check(self, call, world, classes, wanted):
        """Check the answer, twice, and that neither the list nor the world changes."""
        before = [picture_of_world(world), list(classes)]
        self.assertEqual([call(world, classes), call(world, classes)], [wanted, wanted])
        self.assertEqual([picture_of_world(world), classes], before)


class Largest(Start):

    def test_none_and_one(self):
        world = world_of_lines()
        self.check(largest, World(), [], [])
        self.check(largest, world, [], [])
        for number in range(9):
            self.check(largest, world, [number], [number])

    def test_all_on_one_line_in_the_order_of_the_list(self):
        world = world_of_lines()
        for classes in ([2, 1, 0], [0, 1, 2], [5, 7, 1, 2], [6, 0, 4, 3, 1], [8, 7, 0], [2, 5]):
            self.check(largest, world, classes, classes)

    def test_some_on_one_line(self):
        world = world_of_lines()
        for classes, part in [
            ([2, 3, 4], [3, 4]), ([4, 2, 3], [4, 3]), ([8, 5, 1, 2], [5, 1, 2]), ([2, 8, 3, 1, 6, 0], [3, 1, 6, 0]),
            ([6, 2, 5, 8, 7], [2, 5, 7]), ([8, 2, 7], [8, 7]), ([0, 1, 2, 3, 4, 5, 6, 7, 8], [0, 1, 3, 4, 6, 7]),
            ([8, 7, 6, 5, 4, 3, 2, 1, 0], [7, 6, 4, 3, 1, 0]),
        ]:
            self.check(largest, world, classes, part)

    def test_the_least_list_of_indices_of_several(self):
        world = world_of_lines()
        for classes, part in [
            ([2, 3], [2]), ([3, 2], [3]), ([8, 2, 3], [8]), ([3, 2, 5, 4], [3, 4]), ([2, 3, 4, 5], [2, 5]),
            ([8, 2, 3, 0], [8, 0]), ([2, 8, 3, 1], [2, 1]), ([8, 2, 3, 1], [2, 1]), ([3, 8, 2, 0], [3, 0]),
            ([8, 3, 2, 1, 5, 4], [3, 1, 4]), ([8, 2, 3, 1, 4, 5], [2, 1, 5]), ([1, 2, 6, 5, 4], [1, 2, 5]),
            ([1, 6, 2, 5, 4], [1, 6, 4]), ([8, 7, 0, 2, 1], [7, 0, 2, 1]), ([8, 7, 2, 5], [7, 2, 5]),
        ]:
            self.assertEqual(plain_largest(world, classes), part)
            self.check(largest, world, classes, part)

    def test_all_lists_of_up_to_four(self):
        world = world_of_lines()
        for many in range(5):
            for classes in itertools.permutations(range(9), many):
                self.assertEqual(largest(world, list(classes)), plain_largest(world, list(classes)), classes)

    def test_it_is_a_largest_part_in_other_worlds(self):
        short = 0
        for seed in range(60):
            pair = Pair(self, seed)
            for _ in range(20):
                pair.make()
            for _ in range(10):
                many = min(8, pair.world.count())
                classes = pair.chance.sample(range(pair.world.count()), many)
                part = largest(pair.world, classes)
                self.assertEqual(part, plain_largest(pair.world, classes))
                short += len(part) < many
        self.assertGreater(short, 100)

    def test_many_classes(self):
        world = World()
        chain(world, 24)
        self.check(largest, world, list(range(25)), list(range(25)))
        self.check(largest, world, list(range(24, -1, -1)), list(range(24, -1, -1)))
        world = World()
        for _ in range(24):
            world.make_class([0], ["a"])
        self.check(largest, world, list(range(25)), [0, 1])
        self.check(largest, world, list(range(24, -1, -1)), [24, 0])
        self.check(largest, world, list(range(24, 0, -1)), [24])
        world = World()
        for at in range(24):
            world.make_class([max(0, at - 1)], ["a"])
        self.check(largest, world, list(range(25)), [0, *range(1, 24, 2)])
        self.check(largest, world, list(range(24, -1, -1)), [*range(24, 0, -2), 0])
        self.check(largest, world, list(range(2, 25)), list(range(2, 25, 2)))

    def test_lines_as_they_are_now(self):
        world = world_of_lines()
        self.check(largest, world, [8, 3, 1], [3, 1])
        set_bases(world, 8, [6])
        self.check(largest, world, [8, 3, 1], [8, 3, 1])


class BaseOrders(Start):

    def test_none_and_one(self):
        world = world_of_lines()
        self.check(base_orders, World(), [], [])
        self.check(base_orders, world, [], [])
        for number in range(9):
            self.check(base_orders, world, [number], [[number]])

    def test_orders_known_by_hand(self):
        world = world_of_lines()
        for classes, orders in [
            ([1, 0], [[1, 0]]), ([0, 1], [[1, 0]]), ([2, 5], [[5, 2]]), ([2, 3], []), ([8, 2, 0], []),
            ([7, 8], [[7, 8], [8, 7]]), ([8, 7], [[7, 8], [8, 7]]), ([0, 7, 8], [[7, 8, 0], [8, 7, 0]]),
            ([1, 7, 5], [[5, 1, 7], [5, 7, 1], [7, 5, 1]]), ([0, 1, 2, 5], [[5, 2, 1, 0]]),
        ]:
            self.check(base_orders, world, classes, orders)

    def test_rings_between_bases_of_bases(self):
        world = World()
        for bases in ([0], [0], [1, 2], [2, 1], [0]):
            world.make_class(bases, [])
        self.check(base_orders, world, [3, 4], [])
        self.check(base_orders, world, [4, 5, 3], [])
        self.check(base_orders, world, [2, 1], [[1, 2], [2, 1]])
        self.check(base_orders, world, [1, 3, 2], [[3, 1, 2]])
        self.check(base_orders, world, [1, 2, 4], [[4, 2, 1]])
        self.check(base_orders, world, [5, 3], [[3, 5], [5, 3]])

    def test_five_and_six_classes(self):
        world = World()
        for _ in range(6):
            world.make_class([0], [])
        orders = [list(order) for order in itertools.permutations(range(1, 6))]
        self.check(base_orders, world, [5, 4, 3, 2, 1], orders)
        ends_with_0 = [[*order, 0] for order in itertools.permutations([1, 2, 3, 5])]
        self.check(base_orders, world, [3, 1, 0, 5, 2], ends_with_0)
        self.assert_raises(TooMany, base_orders, world, [1, 2, 3, 4, 5, 6], limit=5)
        self.check(largest, world, [1, 2, 3, 4, 5, 6], [1, 2, 3, 4, 5, 6])

    def test_rooms_and_fields_of_the_bases_do_not_matter(self):
        world = World()
        world.make_class([0], [], roomy=True)
        world.make_class([0], ["a"], roomy=True)
        world.make_class([0], [], pairs=[("a", 1)])
        self.check(base_orders, world, [1, 2], [[1, 2], [2, 1]])
        self.check(base_orders, world, [3, 1, 2], [list(order) for order in itertools.permutations([1, 2, 3])])

    def test_a_full_world(self):
        world = World()
        chain(world, 20)
        for _ in range(4):
            world.make_class([19], [])
        self.assert_raises(TooMany, world.make_class, [24, 20], [], limit=25)
        self.check(base_orders, world, [24, 20], [[20, 24], [24, 20]])
        self.check(base_orders, world, [24, 20, 22, 21, 23],
                   [list(order) for order in itertools.permutations(range(20, 25))])
        self.check(base_orders, world, [0, 5, 10, 15, 24], [[24, 15, 10, 5, 0]])

    def test_what_make_class_accepts_in_other_worlds(self):
        counts = []
        for seed in range(40):
            pair = Pair(self, seed)
            for _ in range(14):
                pair.make()
            for _ in range(4):
                classes = pair.chance.sample(range(pair.world.count()), min(pair.world.count(), 2 + seed % 3))
                orders = base_orders(pair.world, classes)
                self.assertEqual(orders, plain_base_orders(pair.world, classes))
                counts.append(len(orders))
        for many in (0, 1, 2, 6):
            self.assertGreater(counts.count(many), 0)

    def test_five_classes_in_other_worlds(self):
        for seed in range(10):
            pair = Pair(self, seed)
            for _ in range(8):
                pair.make()
            if pair.world.count() >= 5:
                classes = pair.chance.sample(range(pair.world.count()), 5)
                self.assertEqual(base_orders(pair.world, classes), plain_base_orders(pair.world, classes))


class Wrong(Case):

    def setUp(self):
        self.world = world_of_lines()

    def both(self, classes, kind, **fields):
        for call in (largest, base_orders):
            self.assert_keeps(lambda: picture_of_world(self.world), kind, call, self.world, classes, **fields)

    def test_no_list(self):
        for thing in [*odd_values(), 0, True, "", "a", (0,), (1, 2), {0: 0}]:
            self.both(thing, BadList, why="classes")

    def test_no_class(self):
        for thing in not_numbers(9, 25):
            self.both([thing], NoClass, number=thing)
            self.both([1, 1, thing, 9, None], NoClass, number=thing)
            self.both([1, 2, 3, 4, 5, 6, 7, thing], NoClass, number=thing)
        for first, second in itertools.permutations([9, True, -1, "1", [0], EqualToAll()], 2):
            self.both([5, 3, first, second], NoClass, number=first)

    def test_the_first_duplicate(self):
        self.both([0, 0], Duplicate, thing=0)
        self.both([1, 2, 3, 2, 1], Duplicate, thing=2)
        self.both([1, 2, 3, 4, 5, 6, 7, 5, 1], Duplicate, thing=5)

    def test_too_many(self):
        self.assert_keeps(
            lambda: picture_of_world(self.world), TooMany, base_orders, self.world, [1, 2, 3, 4, 5, 6], limit=5,
        )
        self.assert_raises(TooMany, base_orders, self.world, list(range(9)), limit=5, why="too many")
        self.assertEqual(largest(self.world, list(range(9))), [0, 1, 3, 4, 6, 7])

    def test_the_first_stated_error_is_raised(self):
        self.both((1, 1, 9), BadList, why="classes")
        self.both([1, 1, 2, 3, 4, 5, 6, 10], NoClass, number=10)
        self.both([1, 1, 2, 3, 4, 5, 6], Duplicate, thing=1)


class Answers(Case):

    def test_lists_belong_to_the_caller(self):
        world = world_of_lines()
        classes = [2, 1, 0]
        part = largest(world, classes)
        self.assertIsNot(part, classes)
        part.clear()
        self.assertEqual([classes, largest(world, classes)], [[2, 1, 0], [2, 1, 0]])
        orders = base_orders(world, [7, 8])
        orders[0].clear()
        orders.append(3)
        self.assertEqual(base_orders(world, [7, 8]), [[7, 8], [8, 7]])
        single = base_orders(world, [7])
        single[0].append(1)
        self.assertEqual(base_orders(world, [7]), [[7]])
        self.assertEqual([type(row) for row in base_orders(world, [7, 8])], [list, list])


if __name__ == "__main__":
    unittest.main()
