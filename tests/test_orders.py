"""Orders and rings: points 1.1 to 1.4, and 0.2 and 0.3 for them."""

import copy
import itertools
import unittest

from layoutline.errors import BadList, Duplicate, TooMany
from layoutline.orders import merge, shows_merge
from tests.helpers import Case, EqualToAll, Incomparable, odd_values
from tests.model import plain_merge, plain_ring


def any_order(lists):
    """Tell whether any order of all items keeps each list in order."""
    things = sorted(set(itertools.chain(*lists)))
    pairs = [pair for items in lists for pair in itertools.combinations(items, 2)]
    return any(all(order.index(a) < order.index(b) for a, b in pairs) for order in itertools.permutations(things))


def short_lists(things):
    """Return all lists of some of the things without duplicates."""
    counts = range(len(things) + 1)
    return [list(items) for count in counts for items in itertools.permutations(things, count)]


def long_ring(many):
    """Return as many lists of two, which have only one ring: all of them."""
    return [[at, (at + 1) % many] for at in range(many)]


ORDERED = [
    [], [[]], [[], []], [[5]], [[1, 2, 3]], [[1, 2], [3, 4]], [[1, 0], [2, 0], [1, 2]], [[], [2, 1], [], [3, 1]],
    [[-1, -2], [-2, -3]], [[10 ** 30, -10 ** 30], [0, 10 ** 30]], [[3], [1, 3], [2, 1]], [[1, 5], [2, 5], [3, 4]],
]

RINGED = [
    [[1, 2], [2, 1]], [[1, 2], [2, 3], [3, 1]], [[9, 1, 2], [9, 2, 1]], [[], [0, -1], [7], [-1, 0]],
    [[1, 2, 3], [3, 4, 1]], [[1, 8, 2], [2, 9, 3], [3, 7, 1], [5, 1]], long_ring(30), [[4, 1], [1, 2], [2, 1]],
]


class MergeOrders(Case):

    def test_orders_known_by_hand(self):
        for lists, order in [
            ([], []),
            ([[]], []),
            ([[], [], []], []),
            ([[7]], [7]),
            ([[3, 1, 2]], [3, 1, 2]),
            ([[1, 2], [3, 4]], [1, 2, 3, 4]),
            ([[3, 4], [1, 2]], [3, 4, 1, 2]),
            ([[1, 0], [2, 0], [1, 2]], [1, 2, 0]),
            ([[2], [1, 2]], [1, 2]),
            ([[], [2, 1], [], [3, 1]], [2, 3, 1]),
            ([[0], [-5, 0], [10 ** 20, -5]], [10 ** 20, -5, 0]),
            ([[1, 5], [2, 5], [3, 4]], [1, 2, 5, 3, 4]),
            ([[1, 4, 6], [2, 4, 5], [3, 5, 6]], [1, 2, 4, 3, 5, 6]),
            ([[1, 2], [1, 2], [1, 2]], [1, 2]),
        ]:
            with self.subTest(lists):
                self.assertEqual(merge(lists), ("order", order))

    def test_it_goes_back_to_the_first_list_after_each_item(self):
        self.assertEqual(merge([[3, 9], [1, 3], [2, 8]]), ("order", [1, 3, 9, 2, 8]))

    def test_all_short_lists_of_three_items(self):
        for lists in itertools.product(short_lists((0, 1, -2)), repeat=3):
            lists = list(lists)
            order = plain_merge(lists)
            word, found = merge(lists)
            if order is None:
                self.assertFalse(any_order(lists))
                self.assertEqual(word, "ring")
                self.assertTrue(plain_ring(lists, found), (lists, found))
            else:
                self.assertEqual((word, found), ("order", order))

    def test_pairs_of_lists_of_four_items(self):
        for lists in itertools.product(short_lists((1, 2, 3, 4)), repeat=2):
            order = plain_merge(lists)
            word, found = merge(list(lists))
            if order is None:
                self.assertTrue(word == "ring" and plain_ring(lists, found), (lists, found))
            else:
                self.assertEqual((word, found), ("order", order))

    def test_lists_of_the_largest_size(self):
        rows = [list(range(30 * at, 30 * at + 30)) for at in range(30)]
        self.assertEqual(merge(rows), ("order", list(range(900))))
        same = [list(range(30)) for _ in range(30)]
        self.assertEqual(merge(same), ("order", list(range(30))))
        chained = [[at, 100 - at, at - 1] for at in range(30)]
        self.assertEqual(merge(chained), ("order", plain_merge(chained)))
        late = [list(range(29 * at, 29 * at + 30)) for at in range(29, -1, -1)]
        self.assertEqual(merge(late), ("order", list(range(871))))

    def test_the_outcome_is_a_tuple_of_a_word_and_a_list(self):
        for lists, word in [(ORDERED[6], "order"), (RINGED[0], "ring")]:
            outcome = merge(lists)
            self.assertIs(type(outcome), tuple)
            self.assertEqual(len(outcome), 2)
            self.assertEqual(outcome[0], word)
            self.assertIs(type(outcome[1]), list)

    def test_a_changed_result_does_not_change_the_next(self):
        for lists in [*ORDERED, *RINGED]:
            first = merge(lists)
            kept = copy.deepcopy(first)
            first[1].append(99)
            first[1].reverse()
            self.assertEqual(merge(lists), kept)

    def test_the_result_is_not_one_of_the_lists(self):
        lists = [[1, 2, 3]]
        merge(lists)[1].clear()
        self.assertEqual(lists, [[1, 2, 3]])

    def test_arguments_stay_as_they_are(self):
        for lists in [*ORDERED, *RINGED]:
            before = copy.deepcopy(lists)
            paper = merge(lists)
            held = copy.deepcopy(paper)
            shows_merge(lists, paper)
            self.assertEqual(lists, before)
            self.assertEqual(paper, held)


class MergeRings(Case):

    def test_each_ring_is_a_ring(self):
        for lists in RINGED:
            with self.subTest(lists):
                word, ring = merge(lists)
                self.assertEqual(word, "ring")
                self.assertGreaterEqual(len(ring), 2)
                for part in ring:
                    self.assertIs(type(part), tuple)
                    self.assertEqual([type(thing) for thing in part], [int, int])
                self.assertTrue(plain_ring(lists, ring), ring)

    def test_a_ring_through_all_lists(self):
        word, ring = merge(long_ring(30))
        self.assertEqual((word, sorted(ring)), ("ring", [(at, at) for at in range(30)]))

    def test_a_ring_of_the_largest_lists(self):
        up = list(range(30))
        lists = [up] * 29 + [up[::-1]]
        word, ring = merge(lists)
        self.assertEqual(word, "ring")
        self.assertTrue(plain_ring(lists, ring))

    def test_a_ring_behind_items_that_could_be_taken(self):
        lists = [[1, 2, 3, 4], [1, 2, 4, 3], [5]]
        word, ring = merge(lists)
        self.assertEqual((word, sorted(item for item, index in ring)), ("ring", [3, 4]))
        self.assertTrue(plain_ring(lists, ring))


class ShowsMerge(Case):

    def check(self, lists, paper, shown):
        with self.subTest(lists=lists, paper=paper):
            self.assertIs(shows_merge(lists, paper), shown)

    def test_what_merge_returns_is_shown(self):
        for lists in [*ORDERED, *RINGED]:
            self.check(lists, merge(lists), True)

    def test_any_ring_is_shown(self):
        lists = [[1, 2, 3], [3, 2, 1], [2, 3]]
        for ring in [
            [(1, 0), (2, 1)], [(2, 1), (1, 0)], [(1, 0), (3, 1)], [(2, 2), (3, 1)], [(1, 0), (3, 1), (2, 1)],
            [(1, 0), (2, 2), (3, 1)],
        ]:
            self.check(lists, ("ring", ring), True)

    def test_all_small_papers_of_a_ring(self):
        parts = list(itertools.product(range(-1, 4), range(-4, 4)))
        for lists in [[[1, 2], [2, 1]], [[0, 1, 2], [2, 0], [1, 0]], [[0, 1], [1, 2], [2, 0]], [[0, 1], [1, 2]]]:
            for ring in itertools.product(parts, repeat=2):
                self.assertIs(shows_merge(lists, ("ring", list(ring))), plain_ring(lists, ring), (lists, ring))
        three = [part for part in parts if part[0] in (0, 1, 2) and part[1] in (0, 1, 2)]
        for lists in [[[0, 1], [1, 2], [2, 0]], [[0, 1, 2], [2, 1, 0], [1, 0]]]:
            for ring in itertools.product(three, repeat=3):
                self.assertIs(shows_merge(lists, ("ring", list(ring))), plain_ring(lists, ring), (lists, ring))

    def test_all_small_papers_of_an_order(self):
        for lists in [[[1, 2], [0]], [[0, 1], [1, 2]], [[1, 2], [2, 1]], [], [[1]]]:
            order = plain_merge(lists)
            for count in range(5):
                for paper in itertools.product((0, 1, 2, 3), repeat=count):
                    self.assertIs(shows_merge(lists, ("order", list(paper))), list(paper) == order, (lists, paper))

    def test_an_order_with_one_detail_changed(self):
        lists = [[1, 0], [2, 0], [1, 2]]
        self.check(lists, ("order", [1, 2, 0]), True)
        for paper in [
            ("order", [2, 1, 0]), ("order", [1, 2]), ("order", [1, 2, 0, 0]), ("order", [1, 2, 0, 3]),
            ("order", [1, 2, 3]), ("order", [1, 2, -1]), ("order", []), ("order", [1, 1, 2, 0]),
            ("order", (1, 2, 0)), ["order", [1, 2, 0]], ("ring", [1, 2, 0]), ("Order", [1, 2, 0]), ("", [1, 2, 0]),
            ("order", [True, 2, 0]), ("order", [1, 2, False]), ("order", [1, "2", 0]), ("order", [1, 2, None]),
            ("order", [1, 2, [0]]), ("order", [[1, 2, 0]]), ("order", {1: 1, 2: 2, 0: 0}), ("order", range(3)),
            ("order",), ("order", [1, 2, 0], 0), ("order", "120"), (b"order", [1, 2, 0]), ([1, 2, 0], "order"),
            ("order", [1, 2, EqualToAll()]), ("order", [1, 2, Incomparable()]), ("order", EqualToAll()),
            (EqualToAll(), [1, 2, 0]), (["order"], [1, 2, 0]),
        ]:
            self.check(lists, paper, False)

    def test_a_bool_is_no_integer_of_an_order(self):
        self.check([[1, 0]], ("order", [1, 0]), True)
        self.check([[1, 0]], ("order", [True, 0]), False)
        self.check([[1, 0]], ("order", [1, False]), False)

    def test_another_order_of_the_items_is_not_shown(self):
        self.check([[1, 2], [3]], ("order", [1, 2, 3]), True)
        self.check([[1, 2], [3]], ("order", [3, 1, 2]), False)
        self.check([[1, 2], [3]], ("order", [1, 3, 2]), False)

    def test_a_ring_with_one_detail_changed(self):
        lists = [[1, 2], [2, 3], [3, 1]]
        ring = [(1, 0), (2, 1), (3, 2)]
        self.check(lists, ("ring", ring), True)
        self.check(lists, ("ring", ring[1:] + ring[:1]), True)
        for paper in [
            [(2, 1), (1, 0), (3, 2)], [(1, 0), (2, 1)], [(1, 0), (2, 1), (3, 2), (1, 0)], ring * 2, [], ring[:1],
            [(1, 1), (2, 1), (3, 2)], [(1, 3), (2, 1), (3, 2)], [(1, -3), (2, 1), (3, 2)], [(1, 0), (2, 1), (3, -1)],
            [(0, 0), (2, 1), (3, 2)], [(1, 0), (2, 1), (4, 2)], [(1, 0), (2, 2), (3, 1)], [(1, 0), (2, 0), (3, 2)],
            [(1, False), (2, 1), (3, 2)], [(1, 0), (2, True), (3, 2)], [(True, 0), (2, 1), (3, 2)],
            [[1, 0], (2, 1), (3, 2)], [(1, 0), (2, 1), [3, 2]], tuple(ring), [(1, 0, 0), (2, 1), (3, 2)],
            [(1,), (2, 1), (3, 2)], [1, 2, 3], [(1, 0), (2, 1), None], [(1, 0), (2, 1), (3, "2")],
            [("1", 0), (2, 1), (3, 2)], [([1], 0), (2, 1), (3, 2)], [(1, [0]), (2, 1), (3, 2)],
            [(EqualToAll(), 0), (2, 1), (3, 2)], [(1, EqualToAll()), (2, 1), (3, 2)], [EqualToAll(), *ring[1:]],
            [(Incomparable(), 0), (2, 1), (3, 2)], dict(ring), [(1, 0), (2, 1), ((3, 2),)], [ring],
        ]:
            self.check(lists, ("ring", paper), False)
        self.check(lists, ("order", ring), False)
        self.check(lists, ["ring", ring], False)
        self.check(lists, ("ring", ring, ring), False)
        self.check(lists, ("rings", ring), False)
        self.check(lists, ring, False)

    def test_one_item_is_no_ring(self):
        for lists in [[[1]], [[1, 2], [2, 1]]]:
            self.check(lists, ("ring", [(1, 0)]), False)
            self.check(lists, ("ring", [(1, 0), (1, 0)]), False)

    def test_an_item_twice_is_no_ring(self):
        lists = [[1, 2], [2, 1]]
        self.check(lists, ("ring", [(1, 0), (2, 1), (1, 0), (2, 1)]), False)
        lists = [[1, 2, 3], [2, 1], [3, 1]]
        self.check(lists, ("ring", [(1, 0), (2, 1), (1, 0), (3, 2)]), False)

    def test_nothing_else_is_shown(self):
        own = []
        own.append(own)
        for lists in [[], ORDERED[6], RINGED[0]]:
            for paper in [
                *odd_values(), 0, 1, True, False, "order", "ring", [], [1, 2, 0], own, ("ring", own), ("order", own),
                ("order", None), ("ring", None), ("ring", []), ("order", ()), (own, own), "or", (("order", []),),
            ]:
                self.assertIs(shows_merge(lists, paper), False)


class OrderErrors(Case):

    def both(self, kind, lists, **fields):
        """Check that merge raises the error, and shows_merge too, whatever the paper is."""
        self.assert_raises(kind, merge, lists, **fields)
        for paper in [None, ("order", []), ("ring", [(1, 0), (2, 1)]), lists, EqualToAll(), ("order", [1, 2])]:
            self.assert_raises(kind, shows_merge, lists, paper, **fields)

    def test_no_list_of_lists_of_integers(self):
        for lists in [
            *odd_values(), 0, 1, True, "", "ab", ([1],), [(1, 2)], [[1], (2,)], [1], [[1], 2], [[[1]]], ["12"],
            [[1, "2"]], [[1], [None]], [[True]], [[1, False]], [[1], [2, True]], {0: [1]}, [{1, 2}], [{}], [range(3)],
            [b"ab"],
        ]:
            self.both(BadList, lists, why="lists")
        for thing in [*odd_values(), "", "a", True, [], [1]]:
            self.both(BadList, [[1, thing]], why="lists")
        for thing in [*odd_values(), "", "a", True, 1]:
            self.both(BadList, [[1], thing], why="lists")

    def test_too_many(self):
        self.both(TooMany, [[]] * 31, limit=30)
        self.both(TooMany, [[at] for at in range(31)], limit=30)
        self.both(TooMany, [list(range(31))], limit=30)
        self.both(TooMany, [[], [1], list(range(-31, 0))], limit=30)

    def test_as_many_as_allowed(self):
        self.assertEqual(merge([[]] * 30), ("order", []))
        self.assertEqual(merge([list(range(30))]), ("order", list(range(30))))
        self.assertIs(shows_merge([[]] * 30, ("order", [])), True)
        self.assertIs(shows_merge([list(range(30))], ("order", list(range(30)))), True)

    def test_duplicates(self):
        self.both(Duplicate, [[3, 4, 3]], thing=3)
        self.both(Duplicate, [[1, 2], [], [5, 7, 7, 5]], thing=7)
        self.both(Duplicate, [[1, 2, 2, 1], [3, 3]], thing=2)
        self.both(Duplicate, [[0, -1, -1, 0]], thing=-1)
        self.both(Duplicate, [[5, 6, 0, 0], [1, 1]], thing=0)
        self.both(Duplicate, [[1, 2], [2, 1], [4, 4]], thing=4)

    def test_the_error_holds_the_value_that_was_passed(self):
        first, second = int("1" * 30), int("1" * 30)
        self.both(Duplicate, [[first, 0, second]], thing=second)

    def test_an_item_in_several_lists_is_no_duplicate(self):
        self.assertEqual(merge([[1, 2], [2], [1]]), ("order", [1, 2]))

    def test_the_first_stated_error_is_raised(self):
        self.both(BadList, [[]] * 31 + [None], why="lists")
        self.both(BadList, [list(range(31)), [True]], why="lists")
        self.both(BadList, [[1, 1], [2, "a"]], why="lists")
        self.both(BadList, [[1, 1, None]], why="lists")
        self.both(TooMany, [[1, 1]] * 31, limit=30)
        self.both(TooMany, [[1, 1], list(range(31))], limit=30)
        self.both(TooMany, [[7] * 31], limit=30)


if __name__ == "__main__":
    unittest.main()
