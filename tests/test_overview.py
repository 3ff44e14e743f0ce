"""The overview, over the whole program: points 0.1 to 0.5."""

import copy
import unittest

from layoutline.changes import drop_value, set_bases, set_value, spoilt_by
from layoutline.errors import LineError
from layoutline.finding import could_meet, find, hidden, names_of, reader
from layoutline.judges import shows_collision, shows_ring
from layoutline.layouts import Layout
from layoutline.machines import Machine
from layoutline.meetings import base_orders, largest
from layoutline.objects import Objects
from layoutline.orders import merge, shows_merge
from layoutline.runs import run
from layoutline.worlds import World
from tests.helpers import Case, EqualToAll, Incomparable, odd_values, picture_of_objects, picture_of_world
from tests.pairs import Pair


# Where an argument may be a tuple: the calls by name, with the index of the argument.
TUPLES = [("set_value", 2), ("write", 2), ("write by a kept reader", 2), ("make_class", 3)]


class Things:
    """A world with all that may be asked of it, and by name each call with arguments that it takes."""

    def __init__(self):
        world = self.world = World()
        world.make_class([0], ["a", "b"], pairs=[("v", (1, "x")), ("u", 2)])
        world.make_class([1], [], roomy=True)
        world.make_class([0], ["c"])
        world.make_class([1], [])
        objects = self.objects = Objects(world)
        for number in (1, 2, 0):
            objects.new(number)
        objects.write(0, "a", 5)
        objects.write(1, "b", (6, ()))
        objects.write(1, "r", 7)
        machine = self.machine = Machine(objects)
        machine.read(0, "a")
        machine.read(1, "v")
        set_value(world, 2, "v", 3)
        self.layout = Layout(["a", "b", "a"])

    def asking(self):
        """Return the calls that change nothing."""
        world, objects, machine, layout = self.world, self.objects, self.machine, self.layout
        return {
            "merge": (merge, [[[1, 0], [2, 0], [1, 2]]]), "merge to a ring": (merge, [[[1, 2], [2, 1]]]),
            "shows_merge": (shows_merge, [[[1, 2], [2, 1]], ("ring", [(1, 0), (2, 1)])]),
            "Layout": (Layout, [["a", "b"], True]), "fields of a layout": (layout.fields, []),
            "offset_of": (layout.offset_of, ["a"]), "with_room": (layout.with_room, []),
            "plus": (lambda fields: layout + fields, [["a", "z"]]), "offset": (lambda at: layout[at], [1]),
            "order": (world.order, [2]), "line": (world.line, [2]), "owner": (world.owner, [2]),
            "layout": (world.layout, [2]), "count": (world.count, []), "living": (world.living, [1]),
            "bases": (world.bases, [1]), "fields": (world.fields, [1]), "below": (world.below, [1]),
            "values": (world.values, [1]), "declares_room": (world.declares_room, [1]),
            "find": (lambda number, name: find(world, number, name), [1, "v"]),
            "reader": (lambda number, name: reader(world, number, name), [1, "v"]),
            "names_of": (lambda number: names_of(world, number), [1]),
            "hidden": (lambda number: hidden(world, number), [2]),
            "could_meet": (lambda numbers: could_meet(world, numbers), [[1, 3]]),
            "alive": (objects.alive, []), "class_of": (objects.class_of, [1]), "read": (objects.read, [1, "b"]),
            "cells": (objects.cells, [1]), "room": (objects.room, [1]), "twins": (objects.twins, [1]),
            "spoilt_by": (lambda number, bases: spoilt_by(world, number, bases), [4, [3]]),
            "shows_collision": (
                lambda bases, paper: shows_collision(world, bases, paper), [[1, 3], ((1, 3), 0, ("a", "c"))],
            ),
            "shows_ring": (lambda bases, paper: shows_ring(world, bases, paper), [[0, 1], [(0, 2), (1, 1)]]),
            "largest": (lambda classes: largest(world, classes), [[1, 3, 0]]),
            "base_orders": (lambda classes: base_orders(world, classes), [[1, 4]]),
            "walks": (machine.walks, []), "kept": (machine.kept, []), "stale": (machine.stale, []),
            "read by a kept reader": (machine.read, [1, "v"]), "no steps": (lambda: run(world, objects, []), []),
        }

    def changing(self):
        """Return the calls that change something."""
        world, objects, machine = self.world, self.objects, self.machine
        return {
            "make_class": (
                lambda bases, fields, roomy, pairs: world.make_class(bases, fields, roomy=roomy, pairs=pairs),
                [[1], ["z"], True, [("y", 1)]],
            ),
            "set_value": (lambda number, name, value: set_value(world, number, name, value), [1, "w", (1, 2)]),
            "drop_value": (lambda number, name: drop_value(world, number, name), [1, "v"]),
            "set_bases": (lambda number, bases: set_bases(world, number, bases), [4, [3]]),
            "new": (objects.new, [1]), "drop": (objects.drop, [1]), "write": (objects.write, [1, "b", 3]),
            "erase": (objects.erase, [1, "b"]), "set_class": (objects.set_class, [0, 4]),
            "write by a kept reader": (machine.write, [0, "a", 3]), "erase by a kept reader": (machine.erase, [0, "a"]),
            "told": (machine.told, [[(1, "a")]]),
            "run": (lambda steps: run(world, objects, steps), [[("bases", 4, [3]), ("value", 1, "w", (1, 2))]]),
        }

    def picture(self):
        machine = self.machine
        return [
            picture_of_world(self.world), self.objects.alive(), picture_of_objects(self.objects), machine.walks(),
            machine.kept(), machine.stale(), self.layout.fields(), self.layout.has_room(),
        ]


def lists_in(thing):
    """Return all lists in a list or tuple, with itself."""
    inner = [found for part in thing for found in lists_in(part)] if isinstance(thing, (list, tuple)) else []
    return [thing, *inner] if isinstance(thing, list) else inner


class Calls(Case):

    def test_asking_changes_nothing_and_is_answered_alike(self):
        things = Things()
        before = copy.deepcopy(things.picture())
        for word, (call, arguments) in things.asking().items():
            given = copy.deepcopy(arguments)
            first = call(*arguments)
            self.assertEqual(call(*arguments), first, word)
            self.assertEqual([arguments, things.picture()], [given, before], word)

    def test_changing_does_not_change_or_keep_the_arguments(self):
        for word in Things().changing():
            things = Things()
            before = things.picture()
            call, arguments = things.changing()[word]
            given = copy.deepcopy(arguments)
            call(*arguments)
            self.assertEqual(arguments, given, word)
            after = copy.deepcopy(things.picture())
            self.assertNotEqual(after, before, word)
            for part in lists_in(arguments):
                part.clear()
            self.assertEqual(things.picture(), after, word)

    def test_lists_belong_to_the_caller(self):
        things = Things()
        before = copy.deepcopy(things.picture())
        calls = things.asking()
        for word, (call, arguments) in calls.items():
            first = call(*arguments)
            wanted = copy.deepcopy(first)
            known = [id(part) for part in lists_in(call(*arguments))]
            self.assertEqual([part for part in lists_in(first) if id(part) in known], [], word)
            for part in lists_in(first):
                part.append("more")
                part[0] = part
            self.assertEqual([call(*arguments), things.picture()], [wanted, before], word)

    def test_lists_that_changes_return_belong_to_the_caller(self):
        for word in Things().changing():
            things = Things()
            call, arguments = things.changing()[word]
            told = call(*arguments)
            after = copy.deepcopy(things.picture())
            for part in lists_in(told):
                part.clear()
            self.assertEqual(things.picture(), after, word)

    def test_a_wrong_argument_of_any_kind_is_an_error_and_changes_nothing(self):
        things = Things()
        before = copy.deepcopy(things.picture())
        refused = 0
        for word, (call, arguments) in [*things.asking().items(), *things.changing().items()]:
            for at in range(len(arguments)):
                for thing in [*odd_values(), EqualToAll(), Incomparable()]:
                    given = [*arguments[:at], thing, *arguments[at + 1:]]
                    if word.startswith("shows") and at == 1:
                        self.assertIs(call(*given), False)
                    elif isinstance(thing, tuple) and (word, at) in TUPLES:
                        continue
                    else:
                        self.assertRaises(LineError, call, *given)
                        refused += 1
                    self.assertEqual(things.picture(), before, word)
        self.assertGreater(refused, 500)

    def test_a_bool_is_no_integer(self):
        things = Things()
        before = copy.deepcopy(things.picture())
        for word, (call, arguments) in [*things.asking().items(), *things.changing().items()]:
            for given in with_bools(arguments):
                if word.startswith("shows") and given[0] == arguments[0] and repr(given[0]) == repr(arguments[0]):
                    self.assertIs(call(*given), False, (word, given))
                elif word == "run":
                    self.assertEqual([row[0] for row in call(*given)].count("error"), 1)
                    things = Things()
                    call = things.changing()["run"][0]
                else:
                    self.assertRaises(LineError, call, *given)
                self.assertEqual(things.picture(), before, (word, given))


def with_bools(thing):
    """Return what a list or tuple becomes if one 0 or 1 in it becomes a bool."""
    found = []
    for at, part in enumerate(thing):
        if part in (0, 1) and isinstance(part, int) and not isinstance(part, bool):
            inner = [bool(part)]
        else:
            inner = with_bools(part) if isinstance(part, (list, tuple)) else []
        found.extend([type(thing)([*thing[:at], other, *thing[at + 1:]]) for other in inner])
    return found


class Guarantees(unittest.TestCase):

    def test_what_make_class_makes_has_its_bases_on_a_line_and_in_no_ring(self):
        for seed in range(20):
            pair = Pair(self, seed)
            for _ in range(20):
                pair.make()
            world = pair.world
            for number in range(1, world.count()):
                bases = world.bases(number)
                self.assertIsNone(could_meet(world, bases))
                self.assertEqual(largest(world, bases), bases)
                self.assertIn(bases, base_orders(world, bases))
                lists = [*[world.order(base) for base in bases], bases]
                self.assertTrue(shows_merge(lists, ("order", world.order(number)[1:])))

    def test_a_change_of_bases_is_refused_exactly_if_it_must_be(self):
        told = []
        for seed in range(40):
            pair = Pair(self, seed)
            for _ in range(12):
                pair.make()
            for _ in range(seed % 4 * 2):
                pair.make_object()
            for _ in range(25):
                told.append(self.change(pair.world, pair.some_class(), pair.some_bases()))
        for wanted in ("made", "impossible", "moves"):
            self.assertGreater(told.count(wanted), 40)

    def change(self, world, number, bases):
        """Change the bases, and compare with a world that is made anew with these bases."""
        living = [place for place in range(world.count()) if world.living(place)]
        old = {place: world.layout(place) for place in living}
        wanted = made_anew(world, number, bases)
        if wanted is None:
            word = "impossible"
        else:
            word = "made" if all(wanted[place][2] == old[place] for place in living) else "moves"
        try:
            set_bases(world, number, bases)
            self.assertEqual(word, "made")
            for place in range(world.count()):
                self.assertEqual((world.order(place), world.line(place), world.layout(place)), wanted[place])
        except LineError as error:
            # An impossible class may come behind one whose layout moves.
            self.assertIn(word, ["moves", "impossible"] if error.why == "layout" else ["impossible"])
        self.assertEqual({place: world.layout(place) for place in living}, old)
        return word

    def test_no_cell_of_a_living_object_moves(self):
        for seed in range(20):
            pair = Pair(self, seed)
            for _ in range(10):
                pair.make()
            for _ in range(8):
                pair.make_object()
                pair.use_object()
            world, objects = pair.world, pair.objects
            before = picture_of_objects(objects)
            layouts = [world.layout(objects.class_of(item)) for item in objects.alive()]
            for _ in range(40):
                pair.change_bases()
                pair.change_value()
                self.assertEqual(picture_of_objects(objects), before)
                self.assertEqual([world.layout(objects.class_of(item)) for item in objects.alive()], layouts)


def made_anew(world, number, bases):
    """Return by class its order, line and layout in a world made anew with other bases, or None if it can't be made."""
    rows = {place: world.bases(place) for place in range(world.count())}
    rows[number] = bases
    if number == 0:
        return None
    other, places = World(), {0: 0}
    waiting = list(range(1, world.count()))
    while waiting:
        ready = [place for place in waiting if all(base in places for base in rows[place])]
        if not ready:
            return None
        place = ready[0]
        try:
            places[place] = other.make_class(
                [places[base] for base in rows[place]], world.fields(place), roomy=world.declares_room(place),
            )
        except LineError:
            return None
        waiting.remove(place)
    back = {its: place for place, its in places.items()}
    return {
        place: (
            [back[its] for its in other.order(places[place])], [back[its] for its in other.line(places[place])],
            other.layout(places[place]),
        )
        for place in places
    }


if __name__ == "__main__":
    unittest.main()
