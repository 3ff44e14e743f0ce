"""Judges: points 7.1 to 7.3, and 0.2 and 0.3 for them."""

import copy
import itertools
import unittest

from layoutline.changes import set_bases
from layoutline.errors import BadList, Collision, Duplicate, NoClass, NoOrder, TooMany
from layoutline.judges import shows_collision, shows_ring
from layoutline.worlds import World
from tests.helpers import (
    NOT_NAMES, WRONG_BASES, Case, EqualToAll, Incomparable, chain, not_numbers, odd_values, picture_of_world,
    world_of_lines,
)
from tests.model import plain_ring
from tests.pairs import Pair


def world_of_rings():
    """Return a world without fields, in which 3 and 4, and so 6 and 4, have the same bases in other orders."""
    world = World()
    for bases in ([0], [0], [1, 2], [2, 1], [0], [3]):
        world.make_class(bases, [])
    return world


def plain_collisions(world, bases):
    """Return all papers that shows_collision must accept, as point 7.1 says it."""
    papers = []
    for first, second in itertools.combinations(bases, 2):
        owners = (world.owner(first), world.owner(second))
        one, other = [world.line(number) for number in (first, second)]
        if owners[0] not in other and owners[1] not in one:
            common = [owner for owner in one if owner in other][0]
            offset = len(world.layout(common))
            papers.append((owners, offset, tuple(world.layout(owner)[offset] for owner in owners)))
    return papers


def lists_of(world, bases):
    """Return the lists whose rings shows_ring must accept."""
    return [*[world.order(base) for base in bases], list(bases)]


def small_rings(items, many, longest):
    """Return all lists of tuples of these items and of indices around those of so many lists."""
    parts = list(itertools.product(items, range(-2, many + 2)))
    return [list(ring) for count in range(longest + 1) for ring in itertools.product(parts, repeat=count)]


class Start(Case):

    def check(self, call, world, bases, paper, wanted):
        """Check the answer, and that neither an argument nor the world changes."""
        before = [picture_of_world(world), list(bases)]
        self.assertIs(call(world, bases, paper), wanted)
        self.assertEqual([picture_of_world(world), bases], before)


class ShowsCollision(Start):

    def test_any_two_owners_will_do(self):
        world = world_of_lines()
        for bases, papers in [
            ([2, 3], [((2, 3), 1, ("b", "c"))]),
            ([3, 2], [((3, 2), 1, ("c", "b"))]),
            ([5, 4], [((2, 3), 1, ("b", "c"))]),
            ([2, 4, 8], [((2, 3), 1, ("b", "c")), ((2, 8), 0, ("a", "a")), ((3, 8), 0, ("a", "a"))]),
            ([8, 1, 6], [((8, 1), 0, ("a", "a")), ((8, 6), 0, ("a", "a"))]),
            ([1, 0, 6, 7, 5], [((6, 2), 1, ("c", "b"))]),
            ([3, 2, 4], [((3, 2), 1, ("c", "b")), ((2, 3), 1, ("b", "c"))]),
        ]:
            self.assertEqual(plain_collisions(world, bases), papers)
            for paper in papers:
                self.check(shows_collision, world, bases, paper, True)
                self.check(shows_collision, world, bases, (paper[0][::-1], paper[1], paper[2][::-1]),
                           (paper[0][::-1], paper[1], paper[2][::-1]) in papers)

    def test_what_make_class_does_not_name(self):
        world = world_of_lines()
        bases = [0, 2, 4, 8]
        self.assert_collides(lambda: world.make_class(bases, []), 9, (2, 3), 1, ("b", "c"))
        self.check(shows_collision, world, bases, ((3, 8), 0, ("a", "a")), True)

    def test_owners_are_not_the_bases_themselves(self):
        world = world_of_lines()
        self.check(shows_collision, world, [5, 4], ((2, 3), 1, ("b", "c")), True)
        self.check(shows_collision, world, [5, 4], ((5, 4), 1, ("b", "c")), False)
        self.check(shows_collision, world, [5, 4], ((5, 3), 1, ("b", "c")), False)

    def test_owners_of_classes_that_are_no_bases(self):
        world = world_of_lines()
        self.check(shows_collision, world, [2, 4], ((2, 6), 1, ("b", "c")), False)
        self.check(shows_collision, world, [6, 8], ((3, 8), 0, ("a", "a")), False)

    def test_owners_on_one_line(self):
        world = world_of_lines()
        for bases in ([1, 2], [2, 1], [2, 5], [0, 1, 3, 4, 6], [7, 8], [7, 0]):
            for owners in itertools.permutations(range(9), 2):
                for offset, names in itertools.product(range(3), (("a", "a"), ("b", "c"), ("a", "b"), ("c", "e"))):
                    self.assertIs(shows_collision(world, bases, (owners, offset, names)), False)

    def test_all_small_papers(self):
        world = world_of_lines()
        pairs = list(itertools.product("abcde", repeat=2))
        for bases in ([2, 4, 8], [8, 6, 0], [4, 3, 5]):
            papers = plain_collisions(world, bases)
            for paper in itertools.product(itertools.product(range(10), repeat=2), range(-1, 4), pairs):
                self.assertIs(shows_collision(world, bases, paper), paper in papers, (bases, paper))

    def test_each_detail_changed(self):
        world = world_of_lines()
        bases = [2, 4, 8, 0]
        self.check(shows_collision, world, bases, ((2, 3), 1, ("b", "c")), True)
        for paper in [
            # The owners.
            ((3, 2), 1, ("b", "c")), ((3, 2), 1, ("c", "b")), ((2, 8), 1, ("b", "c")), ((2, 2), 1, ("b", "b")),
            ((2, 1), 1, ("b", "c")), ((2, 4), 1, ("b", "c")), ((2, -6), 1, ("b", "c")), ((-7, 3), 1, ("b", "c")),
            ((2, 9), 1, ("b", "c")), ([2, 3], 1, ("b", "c")), ((2,), 1, ("b", "c")), ((2, 3, 8), 1, ("b", "c")),
            ((), 1, ("b", "c")), (("2", "3"), 1, ("b", "c")), ((2, None), 1, ("b", "c")), (2, 1, ("b", "c")),
            (((2, 3),), 1, ("b", "c")), ({2: 2, 3: 3}, 1, ("b", "c")), (None, 1, ("b", "c")), ("23", 1, ("b", "c")),
            (([2], [3]), 1, ("b", "c")), ((2, EqualToAll()), 1, ("b", "c")), ((EqualToAll(), 3), 1, ("b", "c")),
            (EqualToAll(), 1, ("b", "c")), ((2, Incomparable()), 1, ("b", "c")), (Incomparable(), 1, ("b", "c")),
            # The offset.
            ((2, 3), 0, ("b", "c")), ((2, 3), 2, ("b", "c")), ((2, 3), -1, ("b", "c")), ((2, 3), True, ("b", "c")),
            ((2, 3), "1", ("b", "c")), ((2, 3), None, ("b", "c")), ((2, 3), (1,), ("b", "c")),
            ((2, 3), [1], ("b", "c")), ((2, 3), EqualToAll(), ("b", "c")), ((2, 3), Incomparable(), ("b", "c")),
            ((2, 3), 1 + 0j, ("b", "c")), ((2, 3), 10 ** 30, ("b", "c")),
            # The names.
            ((2, 3), 1, ("c", "b")), ((2, 3), 1, ("b", "b")), ((2, 3), 1, ("a", "a")), ((2, 3), 1, ("b", "d")),
            ((2, 3), 1, ["b", "c"]), ((2, 3), 1, ("b",)), ((2, 3), 1, ("b", "c", "a")), ((2, 3), 1, ()),
            ((2, 3), 1, "bc"), ((2, 3), 1, ("B", "C")), ((2, 3), 1, (b"b", b"c")), ((2, 3), 1, ("b", None)),
            ((2, 3), 1, (["b"], ["c"])), ((2, 3), 1, ("b", EqualToAll())), ((2, 3), 1, EqualToAll()),
            ((2, 3), 1, (Incomparable(), "c")), ((2, 3), 1, Incomparable()), ((2, 3), 1, None), ((2, 3), 1, 1),
            ((2, 3), 1, (("b", "c"),)), ((2, 3), 1, {"b": 1, "c": 2}),
            # The whole.
            [(2, 3), 1, ("b", "c")], ((2, 3), 1), ((2, 3), ("b", "c")), ((2, 3), 1, ("b", "c"), 0),
            (1, (2, 3), ("b", "c")), (("b", "c"), 1, (2, 3)), ((2, 3, 1, "b", "c"),), (((2, 3), 1, ("b", "c")),),
            (9, (2, 3), 1, ("b", "c")), (2, 3, 1, "b", "c"), [((2, 3), 1, ("b", "c"))],
            {0: (2, 3), 1: 1, 2: ("b", "c")}, repr(((2, 3), 1, ("b", "c"))),
        ]:
            self.check(shows_collision, world, bases, paper, False)
        for name in NOT_NAMES:
            self.check(shows_collision, world, bases, ((2, 3), 1, (name, "c")), False)
            self.check(shows_collision, world, bases, ((2, 3), 1, ("b", name)), False)

    def test_a_bool_is_no_integer(self):
        world = World()
        world.make_class([0], ["a"])
        world.make_class([0], ["b"])
        self.check(shows_collision, world, [1, 2], ((1, 2), 0, ("a", "b")), True)
        self.check(shows_collision, world, [1, 2], ((True, 2), 0, ("a", "b")), False)
        self.check(shows_collision, world, [1, 2], ((1, 2), False, ("a", "b")), False)
        self.check(shows_collision, world, [2, 1], ((2, True), 0, ("b", "a")), False)

    def test_names_and_offset_belong_to_these_two_owners(self):
        world = world_of_lines()
        bases = [2, 3, 8]
        for owners, offset, names in itertools.product(
            ((2, 3), (2, 8), (3, 8)), (0, 1), (("b", "c"), ("a", "a")),
        ):
            wanted = (offset, names) == ((1, ("b", "c")) if owners == (2, 3) else (0, ("a", "a")))
            self.check(shows_collision, world, bases, (owners, offset, names), wanted)

    def test_odd_papers(self):
        own = []
        own.append(own)
        world = world_of_lines()
        for bases in ([2, 3], [1, 2], [0]):
            for paper in [*odd_values(), 0, 1, True, False, "", [], own, (own, own, own), ((own, own), 1, (own, own))]:
                self.check(shows_collision, world, bases, paper, False)

    def test_one_base_and_five(self):
        world = world_of_lines()
        for number in range(9):
            for owners in itertools.product(range(9), repeat=2):
                self.assertIs(shows_collision(world, [number], (owners, 0, ("a", "a"))), False)
        self.check(shows_collision, world, [0, 7, 1, 2, 6], ((2, 6), 1, ("b", "c")), True)
        self.check(shows_collision, world, [8, 7, 0, 6, 5], ((6, 2), 1, ("c", "b")), True)

    def test_a_world_of_25_classes(self):
        world = World()
        world.make_class([0], ["a"])
        world.make_class([1], ["b"])
        chain(world, 21)
        world.make_class([1], ["c", "d"])
        self.assertEqual(world.count(), 25)
        self.check(shows_collision, world, [23, 24], ((2, 24), 1, ("b", "c")), True)
        self.check(shows_collision, world, [23, 24], ((23, 24), 1, ("b", "c")), False)

    def test_lines_as_they_are_now(self):
        world = world_of_lines()
        self.check(shows_collision, world, [4, 7], ((3, 8), 0, ("a", "a")), False)
        set_bases(world, 7, [8])
        self.check(shows_collision, world, [4, 7], ((3, 8), 0, ("a", "a")), True)
        set_bases(world, 8, [1])
        self.check(shows_collision, world, [4, 7], ((3, 8), 0, ("a", "a")), False)
        self.check(shows_collision, world, [4, 7], ((3, 8), 1, ("c", "a")), True)


class ShowsRing(Start):

    def test_rings_known_by_hand(self):
        world = world_of_rings()
        for bases, ring in [
            ([3, 4], [(1, 0), (2, 1)]), ([3, 4], [(2, 1), (1, 0)]), ([4, 3], [(1, 1), (2, 0)]),
            ([6, 4], [(1, 0), (2, 1)]), ([5, 3, 0, 4], [(1, 1), (2, 3)]),
            ([0, 1], [(0, 2), (1, 1)]), ([1, 5, 3], [(1, 3), (3, 2)]), ([1, 5, 3], [(1, 3), (5, 3), (3, 2)]),
            ([3, 4, 5, 1, 2], [(1, 5), (2, 1)]), ([3, 4, 5, 1, 2], [(2, 1), (1, 0)]),
        ]:
            self.assertTrue(plain_ring(lists_of(world, bases), ring))
            self.check(shows_ring, world, bases, ring, True)

    def test_all_small_papers(self):
        world = world_of_rings()
        for bases in ([3, 4], [0, 1], [1, 2], [4, 1], [5], [6, 2, 4]):
            lists = lists_of(world, bases)
            for ring in small_rings(range(7), len(lists), 2):
                self.assertIs(shows_ring(world, bases, ring), plain_ring(lists, ring), (bases, ring))

    def test_all_small_papers_of_three(self):
        world = World()
        for bases in ([0], [0], [1, 2]):
            world.make_class(bases, [])
        for bases in ([2, 1, 3], [1, 3]):
            lists = lists_of(world, bases)
            for ring in small_rings(range(4), len(lists), 3):
                self.assertIs(shows_ring(world, bases, ring), plain_ring(lists, ring), (bases, ring))

    def test_the_list_of_the_bases_is_the_last(self):
        world = world_of_rings()
        for bases, index in [([0, 1], 2), ([2, 0, 1], 3), ([5, 2, 0, 3], 4), ([5, 4, 2, 0, 3], 5)]:
            for at in range(-1, 8):
                self.check(shows_ring, world, bases, [(0, at), (bases[-1], len(bases) - 1)], at == index)

    def test_each_detail_changed(self):
        world = world_of_rings()
        bases = [1, 5, 3]
        ring = [(1, 3), (5, 3), (3, 2)]
        self.check(shows_ring, world, bases, ring, True)
        self.check(shows_ring, world, bases, ring[1:] + ring[:1], True)
        self.check(shows_ring, world, bases, ring[2:] + ring[:2], True)
        for paper in [
            ring[::-1], ring * 2, ring + ring[:1], ring[:2], ring[1:], ring[:1], [], tuple(ring), [ring], [tuple(ring)],
            ("ring", ring), dict(ring), list(itertools.chain(*ring)), [(3, 1), (3, 5), (2, 3)],
            [(1, 2), (5, 3), (3, 2)], [(1, 4), (5, 3), (3, 2)], [(1, -1), (5, 3), (3, 2)], [(1, 3), (5, -1), (3, 2)],
            [(1, 3), (5, 3), (3, -2)], [(1, 3), (5, 3), (3, 0)], [(1, 3), (5, 3), (3, 1)], [(1, 0), (5, 3), (3, 2)],
            [(True, 3), (5, 3), (3, 2)], [(1, True), (5, 3), (3, 2)], [(4, 3), (5, 3), (3, 2)],
            [(1, 3), (7, 3), (3, 2)], [(1, 3), (-1, 3), (3, 2)], [[1, 3], (5, 3), (3, 2)], [(1, 3), (5, 3), [3, 2]],
            [(1, 3, 3), (5, 3), (3, 2)], [(1,), (5, 3), (3, 2)], [(), (5, 3), (3, 2)], [1, 5, 3], [None, *ring[1:]],
            [("1", 3), (5, 3), (3, 2)], [(1, "3"), (5, 3), (3, 2)], [(1, None), (5, 3), (3, 2)],
            [([1], 3), (5, 3), (3, 2)], [(1, [3]), (5, 3), (3, 2)], [(EqualToAll(), 3), (5, 3), (3, 2)],
            [(1, EqualToAll()), (5, 3), (3, 2)], [(1, 3), EqualToAll(), (3, 2)], [(Incomparable(), 3), *ring[1:]],
            [(1, Incomparable()), *ring[1:]], [Incomparable(), *ring[1:]], [*ring, Incomparable()],
        ]:
            self.check(shows_ring, world, bases, paper, False)

    def test_bools_are_no_integers(self):
        world = world_of_rings()
        self.check(shows_ring, world, [0, 1], [(0, 2), (1, 1)], True)
        for ring in ([(False, 2), (1, 1)], [(0, 2), (True, 1)], [(0, 2), (1, True)]):
            self.check(shows_ring, world, [0, 1], ring, False)
        self.check(shows_ring, world, [3, 4], [(1, 0), (2, 1)], True)
        for ring in ([(1, False), (2, 1)], [(1, 0), (2, True)], [(True, 0), (2, 1)]):
            self.check(shows_ring, world, [3, 4], ring, False)

    def test_a_ring_gone_round_twice(self):
        world = world_of_rings()
        self.check(shows_ring, world, [3, 4], [(1, 0), (2, 1)] * 2, False)
        self.check(shows_ring, world, [3, 4], [(1, 0), (2, 1)] * 1000, False)

    def test_odd_papers(self):
        own = []
        own.append(own)
        world = world_of_rings()
        for bases in ([3, 4], [1, 2], [0]):
            for paper in [*odd_values(), 0, 1, True, False, "", "ring", [], own, [own, own], [(own, 0), (own, 1)]]:
                self.check(shows_ring, world, bases, paper, False)

    def test_classes_without_a_class_of_them(self):
        world = world_of_rings()
        for bases in ([3], [1, 2], [2, 1, 5], [6, 5, 0], [4, 2, 1, 0]):
            lists = lists_of(world, bases)
            self.assertFalse(any(shows_ring(world, bases, ring) for ring in small_rings(range(7), len(lists), 2)))
            world.make_class(bases, [])

    def test_a_world_of_25_classes(self):
        world = World()
        chain(world, 24)
        bases = [20, 21, 22, 23, 24]
        self.check(shows_ring, world, bases, [(20, 5), (24, 4)], True)
        self.check(shows_ring, world, bases, [(at, 5) for at in range(20, 24)] + [(24, 4)], True)
        self.check(shows_ring, world, bases, [(at, 5) for at in range(20, 24)] + [(24, 3)], False)
        self.check(shows_ring, world, bases[::-1], [(20, 5), (24, 4)], False)


class Wrong(Start):

    def both(self, world, bases, kind, **fields):
        """Check that both raise the error, whatever the paper is, as make_class does."""
        before = picture_of_world(world)
        if world.count() < 25:
            self.assert_raises(kind, world.make_class, bases, [], **fields)
        own = []
        own.append(own)
        for paper in (None, ((1, 2), 0, ("a", "b")), [(0, 2), (1, 1)], EqualToAll(), Incomparable(), own, bases):
            for call in (shows_collision, shows_ring):
                self.assert_raises(kind, call, world, bases, paper, **fields)
        self.assertEqual(picture_of_world(world), before)

    def test_errors_and_their_order(self):
        for many in (6, 7, 24):
            world = World()
            chain(world, many)
            for bases, kind, fields in WRONG_BASES:
                self.both(world, bases, kind, **fields)

    def test_no_list(self):
        for bases in [*odd_values(), 0, True, "", (0,), [], {0: 0}]:
            self.both(World(), bases, BadList, why="bases")

    def test_no_class(self):
        world = world_of_lines()
        for thing in not_numbers(9, 25):
            self.both(world, [thing], NoClass, number=thing)
            self.both(world, [2, 2, thing, 9], NoClass, number=thing)

    def test_duplicates(self):
        self.both(world_of_lines(), [2, 3, 4, 3, 2], Duplicate, thing=3)
        self.both(world_of_lines(), [0, 0], Duplicate, thing=0)

    def test_six_bases(self):
        world = World()
        for _ in range(8):
            world.make_class([0], [])
        self.both(world, [1, 2, 3, 4, 5, 6], TooMany, limit=5)
        self.both(world, [0, 1, 2, 3, 4, 5], TooMany, limit=5)
        self.check(shows_ring, world, [0, 1, 2, 3, 4], [(0, 5), (1, 1)], True)
        self.check(shows_collision, world, [0, 1, 2, 3, 4], ((0, 1), 0, ("a", "a")), False)


class MakeClass(Start):
    """What the judges say of what make_class raises: point 7.3."""

    def test_of_many_bases(self):
        told = []
        for seed in range(60):
            pair = Pair(self, seed)
            for _ in range(14):
                pair.make()
            for _ in range(20):
                told.append(self.judge(pair.world, pair.some_bases()))
        for kind in ("made", "collision", "ring"):
            self.assertGreater(told.count(kind), 100)

    def judge(self, world, bases):
        """Let the judges say what they think of the bases, and return what make_class does."""
        papers = plain_collisions(world, bases)
        for paper in papers:
            self.check(shows_collision, world, bases, paper, True)
        try:
            copy.deepcopy(world).make_class(bases, [])
        except Collision as error:
            paper = (error.owners, error.offset, error.names)
            self.assertEqual(paper, papers[0])
            self.check(shows_collision, world, bases, paper, True)
            return "collision"
        except NoOrder as error:
            self.check(shows_ring, world, bases, error.ring, True)
            self.check(shows_ring, world, bases, error.ring[1:] + error.ring[:1], True)
            self.check(shows_ring, world, bases, tuple(error.ring), False)
            self.assertEqual(papers, [])
            return "ring"
        self.assertEqual(papers, [])
        self.accept_nothing(world, bases)
        return "made"

    def accept_nothing(self, world, bases):
        lists = lists_of(world, bases)
        items = sorted({item for row in lists for item in row})
        for one, other in itertools.permutations(items, 2):
            for indices in itertools.product(range(len(lists)), repeat=2):
                self.assertIs(shows_ring(world, bases, list(zip((one, other), indices))), False)
        for owners in itertools.permutations(items, 2):
            one, other = [world.layout(owner).fields() for owner in owners]
            for offset, names in enumerate(zip(one, other)):
                self.assertIs(shows_collision(world, bases, (owners, offset, names)), False)


if __name__ == "__main__":
    unittest.main()
