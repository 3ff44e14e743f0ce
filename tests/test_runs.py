"""Runs: points 10.1 and 10.2, and 0.2 and 0.3 for them."""

import copy
import random
import unittest

from layoutline.changes import drop_value, set_bases, set_value
from layoutline.errors import BadStep, LineError
from layoutline.objects import Objects
from layoutline.runs import run
from layoutline.worlds import World
from tests.helpers import (
    Case, EqualToAll, Incomparable, chain, not_names, not_numbers, odd_values, picture_of_objects, picture_of_world,
)

# By word a step that may be done in the world of Start.
STEPS = {
    "make": ("make", [1], ["z"], True, [("w", 1)]), "value": ("value", 1, "w", 2), "unvalue": ("unvalue", 1, "v"),
    "bases": ("bases", 3, [0]), "new": ("new", 2), "drop": ("drop", 0), "read": ("read", 0, "a"),
    "write": ("write", 0, "b", 3), "erase": ("erase", 0, "a"), "class": ("class", 0, 2),
}


class Start(Case):
    """A world with objects: 0 is one of class 1."""

    def setUp(self):
        self.world = World()
        self.world.make_class([0], ["a", "b"], pairs=[("v", 1)])
        self.world.make_class([1], [])
        self.world.make_class([1], [])
        self.objects = Objects(self.world)
        self.objects.write(self.objects.new(1), "a", 5)

    def picture(self):
        return [picture_of_world(self.world), self.objects.alive(), picture_of_objects(self.objects)]

    def run_steps(self, *steps):
        return run(self.world, self.objects, list(steps))

    def assert_bad(self, steps, at):
        """Check that steps are refused, and that nothing is done."""
        self.assert_keeps(self.picture, BadStep, run, self.world, self.objects, steps, at=at, why="step")


class Words(Start):

    def test_make(self):
        told = self.run_steps(("make", [1], ["c"], True, [("w", 2)]), ("make", [4, 2], [], False, ()))
        self.assertEqual(told, [("told", 4), ("told", 5)])
        self.assertEqual([self.world.bases(5), self.world.fields(4), self.world.values(4)], [[4, 2], ["c"], [("w", 2)]])
        self.assertEqual([self.world.declares_room(4), self.world.declares_room(5)], [True, False])

    def test_value_and_unvalue(self):
        told = self.run_steps(("value", 2, "w", (1, "x")), ("value", 2, "w", 3), ("unvalue", 1, "v"))
        self.assertEqual(told, [("told", [(2, "w")]), ("told", []), ("told", [(1, "v"), (2, "v"), (3, "v")])])
        self.assertEqual([self.world.values(1), self.world.values(2)], [[], [("w", 3)]])

    def test_bases(self):
        told = self.run_steps(("bases", 3, [2]), ("bases", 3, [0]))
        self.assertEqual(told, [("told", []), ("told", [(3, "a"), (3, "b"), (3, "v")])])
        self.assertEqual(self.world.bases(3), [0])

    def test_new_and_drop(self):
        told = self.run_steps(("new", 2), ("drop", 0), ("new", 0))
        self.assertEqual(told, [("told", 1), ("told", None), ("told", 2)])
        self.assertEqual([self.objects.alive(), self.objects.class_of(1), self.objects.class_of(2)], [[1, 2], 2, 0])

    def test_read_write_and_erase(self):
        told = self.run_steps(("read", 0, "a"), ("write", 0, "b", (7,)), ("read", 0, "b"), ("erase", 0, "a"))
        self.assertEqual(told, [("told", 5), ("told", None), ("told", (7,)), ("told", None)])
        self.assertEqual(self.objects.cells(0), [("unset",), ("set", (7,))])

    def test_class(self):
        self.assertEqual(self.run_steps(("class", 0, 2), ("class", 0, 0)), [("told", None), ("error", "other layout")])
        self.assertEqual([self.objects.class_of(0), self.objects.cells(0)], [2, [("set", 5), ("unset",)]])

    def test_each_word_by_itself(self):
        for word, told in [
            ("make", 4), ("value", [(1, "w"), (2, "w"), (3, "w")]), ("unvalue", [(1, "v"), (2, "v"), (3, "v")]),
            ("bases", [(3, "a"), (3, "b"), (3, "v")]), ("new", 1), ("drop", None), ("read", 5), ("write", None),
            ("erase", None), ("class", None),
        ]:
            self.setUp()
            self.assertEqual(self.run_steps(STEPS[word]), [("told", told)])

    def test_no_steps(self):
        before = self.picture()
        self.assertEqual([self.run_steps(), self.picture()], [[], before])

    def test_steps_go_on_from_what_is_there(self):
        self.assertEqual(self.run_steps(("new", 1)), [("told", 1)])
        self.assertEqual(self.run_steps(("new", 1), ("read", 1, "v")), [("told", 2), ("told", 1)])

    def test_what_is_told_is_a_list_of_tuples_of_two(self):
        told = self.run_steps(*STEPS.values())
        self.assertIs(type(told), list)
        self.assertEqual([(type(row), len(row)) for row in told], [(tuple, 2)] * 10)


class Errors(Start):

    def test_each_error_by_its_why(self):
        self.world.make_class([0], ["c"])
        self.world.make_class([0], [], roomy=True)
        for _ in range(2):
            self.objects.new(4)
        for step, why in [
            (("make", [], [], False, ()), "bases"), (("make", [6], [], False, ()), "class"),
            (("make", [0, 0], [], False, ()), "duplicate"), (("make", [0, 1, 2, 3, 4, 5], [], False, ()), "too many"),
            (("make", [0], ("a",), False, ()), "fields"), (("make", [0], ["A"], False, ()), "name"),
            (("make", [0], [], 0, ()), "room"), (("make", [0], [], False, [["a", 1]]), "values"),
            (("make", [0], [], False, [("a", None)]), "value"), (("make", [1, 4], [], False, ()), "line"),
            (("make", [0, 1], [], False, ()), "order"), (("make", [5], [], True, ()), "room"),
            (("value", 6, "a", 1), "class"), (("value", 1, "A", 1), "name"), (("value", 1, "w", []), "value"),
            (("value", 1, "a", 1), "duplicate"), (("unvalue", 1, "w"), "no such name"), (("unvalue", 6, "w"), "class"),
            (("bases", 1, [2]), "below"), (("bases", 2, []), "bases"), (("bases", 4, [1]), "layout"),
            (("bases", 3, [1, 4]), "line"), (("bases", 3, [0, 1]), "order"), (("new", 6), "class"),
            (("new", True), "class"), (("drop", 3), "object"), (("drop", True), "object"),
            (("read", 0, "b"), "not set"), (("read", 0, "x"), "no such name"), (("read", 7, "x"), "object"),
            (("read", 0, 1), "name"),
            (("write", 0, "x", 1), "no such name"), (("write", 0, "a", 1j), "value"), (("erase", 0, "b"), "not set"),
            (("erase", 0, "v"), "no such name"), (("class", 0, 4), "other layout"), (("class", 0, 6), "class"),
            (("class", 3, 1), "object"),
        ]:
            before = self.picture()
            self.assertEqual([self.run_steps(step), self.picture()], [[("error", why)], before], step)

    def test_an_error_does_not_end_the_run(self):
        told = self.run_steps(
            ("read", 0, "b"), ("write", 0, "b", 1), ("new", 9), ("read", 0, "b"), ("drop", 1), ("drop", 0), ("drop", 0),
            ("new", 1),
        )
        self.assertEqual(told, [
            ("error", "not set"), ("told", None), ("error", "class"), ("told", 1), ("error", "object"), ("told", None),
            ("error", "object"), ("told", 1),
        ])

    def test_limits(self):
        told = self.run_steps(*[("make", [0], [], False, ())] * 25, *[("new", 0)] * 41)
        self.assertEqual([told.count(("error", "too many")), told[20:23]], [
            6, [("told", 24), ("error", "too many"), ("error", "too many")],
        ])
        self.assertEqual([told[25:27], told[-3:]], [
            [("told", 1), ("told", 2)], [("told", 39), ("error", "too many"), ("error", "too many")],
        ])

    def test_arguments_of_any_kind(self):
        before = self.picture()
        for thing in not_numbers(40, EqualToAll()):
            told = self.run_steps(
                ("value", thing, "a", 1), ("unvalue", thing, "a"), ("bases", thing, [0]), ("new", thing),
                ("drop", thing), ("read", thing, "a"), ("write", thing, "a", 1), ("erase", thing, "a"),
                ("class", thing, 1), ("class", 0, thing), ("make", [thing], [], False, ()),
            )
            self.assertEqual([row[0] for row in told], ["error"] * 11)
            self.assertEqual([row[1] for row in told], ["class"] * 4 + ["object"] * 5 + ["class"] * 2)
        for thing in not_names():
            told = self.run_steps(
                ("value", 1, thing, 1), ("unvalue", 1, thing), ("read", 0, thing), ("write", 0, thing, 1),
                ("erase", 0, thing), ("make", [0], [thing], False, ()), ("make", [0], [], False, [(thing, 1)]),
            )
            self.assertEqual(told, [("error", "name")] * 7)
        for thing in odd_values():
            told = self.run_steps(("make", thing, [], False, ()), ("bases", 1, thing), ("make", [0], thing, False, ()))
            self.assertEqual(told, [("error", why) for why in ("bases", "bases", "fields")])
            self.assertEqual(self.run_steps(("make", [0], [], thing, ())), [("error", "room")])
        self.assertEqual(self.picture(), before)


class BadSteps(Start):

    def test_no_list(self):
        for steps in [*odd_values(), 0, True, "", "new", ("new", 1), (("new", 1),), {"new": 1}]:
            self.assert_bad(steps, None)

    def test_things_that_are_no_steps(self):
        things = [
            *odd_values(), 0, True, "", "new", ["new", 1], [], [("new", 1)], (("new", 1),), ("new",), ("New", 1),
            ("news", 1), (" new", 1), ("ne", 1), ("", 1), (b"new", 1), (1, "new"), (None, 1), (["new"], 1),
            (("new",), 1), ({"new": 1}, 1), ({"new"}, 1), (EqualToAll(), 1), (Incomparable(), 1), (True, 1),
            ("spoilt", 0, [0]), ("set_value", 1, "a", 1), ("told", []), ("error", "class"), ("unvalues", 1, "v"),
            ("find", 0, "a"), ("room", 0), ("cells", 0), ("twins", 1), ("alive",), ("count",),
        ]
        for thing in things:
            self.assert_bad([thing], 0)
            self.assert_bad([("new", 1), ("drop", 0), thing, ("new", 1), None], 2)

    def test_every_word_with_too_few_and_too_many_parts(self):
        for word, step in STEPS.items():
            for many in range(1, 9):
                thing = (*step, 1, "a", [0], None)[:many]
                if many != len(step):
                    self.assert_bad([thing], 0)
                    self.assert_bad([*STEPS.values(), thing, thing], 10)
            self.assert_bad([list(step)], 0)
            self.assert_bad([step[1:]], 0)
            self.assert_bad([(word.upper(), *step[1:])], 0)

    def test_the_first_item_that_is_no_step(self):
        for at in range(6):
            steps = [("new", 1)] * at + [("new", 1, 1)] + [None] * 3
            self.assert_bad(steps, at)

    def test_nothing_is_done_however_late_it_stands(self):
        self.assert_bad([*STEPS.values()] * 20 + [("new",)], 200)

    def test_steps_with_wrong_arguments_are_steps(self):
        self.assertEqual(self.run_steps(("new", None), ("drop", []), ("read", {}, {1})), [
            ("error", "class"), ("error", "object"), ("error", "object"),
        ])


class Answers(Start):

    def test_lists_belong_to_the_caller(self):
        told = self.run_steps(("value", 1, "w", 1), ("value", 2, "w", 1), ("bases", 3, [0]))
        before = self.picture()
        for _, spoilt in told:
            spoilt.clear()
        told.clear()
        self.assertEqual(self.picture(), before)
        self.assertEqual(self.run_steps(("unvalue", 2, "w"), ("bases", 3, [2])), [
            ("told", [(2, "w")]), ("told", [(3, "a"), (3, "b"), (3, "v"), (3, "w")]),
        ])

    def test_steps_are_neither_changed_nor_kept(self):
        steps = [("make", [1, 0], ["z"], False, [("w", 1)]), ("bases", 3, [2, 0]), ("value", 1, "w", (1, ("x",)))]
        before = copy.deepcopy(steps)
        self.assertEqual([word for word, _ in run(self.world, self.objects, steps)], ["told"] * 3)
        self.assertEqual(steps, before)
        picture = self.picture()
        for thing in (steps[0][1], steps[0][2], steps[0][4], steps[1][2]):
            thing.clear()
        self.assertEqual(self.picture(), picture)


class Calls(unittest.TestCase):
    """Long runs do what the calls one by one do."""

    def call(self, world, objects, step):
        calls = {
            "make": lambda bases, fields, roomy, pairs: world.make_class(bases, fields, roomy=roomy, pairs=pairs),
            "value": lambda *parts: set_value(world, *parts), "unvalue": lambda *parts: drop_value(world, *parts),
            "bases": lambda *parts: set_bases(world, *parts), "new": objects.new, "drop": objects.drop,
            "read": objects.read, "write": objects.write, "erase": objects.erase, "class": objects.set_class,
        }
        try:
            return ("told", calls[step[0]](*step[1:]))
        except LineError as error:
            return ("error", error.why)

    def some_step(self, chance):
        number, item, name, value = [chance.randrange(count) for count in (9, 12, 5, 9)]
        name = "abcde"[name]
        bases = chance.sample(range(9), chance.choice([1, 1, 1, 2, 3]))
        fields = chance.sample("abcde", chance.choice([0, 0, 1, 2]))
        pairs = [(chance.choice("abcde"), value)] * chance.choice([0, 0, 1, 1, 2])
        return chance.choice([
            ("make", bases, fields, chance.random() < 0.3, chance.choice([pairs, tuple(pairs)])),
            ("make", bases[:1], fields, False, ()), ("value", number, name, value), ("unvalue", number, name),
            ("bases", number, bases), ("new", number), ("new", number), ("drop", item), ("read", item, name),
            ("read", item, name), ("write", item, name, value), ("write", item, name, value), ("erase", item, name),
            ("class", item, number),
        ])

    def test_long_runs(self):
        whys = set()
        for seed in range(30):
            chance = random.Random(seed)
            steps = [self.some_step(chance) for _ in range(300)]
            one, other = World(), World()
            objects, others = Objects(one), Objects(other)
            told = run(one, objects, steps)
            self.assertEqual(told, [self.call(other, others, step) for step in steps])
            self.assertEqual(picture_of_world(one), picture_of_world(other))
            self.assertEqual(picture_of_objects(objects), picture_of_objects(others))
            whys.update(row[1] for row in told if row[0] == "error")
        self.assertEqual(sorted(whys), sorted([
            "below", "class", "duplicate", "layout", "line", "no such name", "not set", "object", "order",
            "other layout", "room", "too many",
        ]))

    def test_a_run_in_parts(self):
        for seed in range(10):
            chance = random.Random(seed)
            steps = [self.some_step(chance) for _ in range(100)]
            one, other = World(), World()
            objects, others = Objects(one), Objects(other)
            told = run(one, objects, steps[:40]) + run(one, objects, steps[40:])
            self.assertEqual(run(other, others, steps), told)

    def test_full_worlds(self):
        world = World()
        chain(world, 24)
        objects = Objects(world)
        told = run(world, objects, [("make", [0], [], False, ()), ("bases", 24, [0]), ("new", 24)])
        self.assertEqual(told, [("error", "too many"), ("told", []), ("told", 0)])


if __name__ == "__main__":
    unittest.main()
