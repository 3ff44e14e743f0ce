"""Worlds, objects and machines beside a model: the same is done to both, and what they tell is compared."""

import random

from layoutline.changes import drop_value, set_bases, set_value, spoilt_by
from layoutline.errors import LineError, NoOrder
from layoutline.finding import could_meet, find, hidden, names_of, reader
from layoutline.machines import Machine
from layoutline.objects import Objects
from layoutline.orders import merge
from layoutline.worlds import World
from tests.helpers import picture_of_objects, picture_of_world
from tests.model import Model, PlainMachine, Refused

NAMES = ["a", "b", "c", "d", "e"]


def model_of_world(model):
    """Return what picture_of_world returns for a world like the model."""
    return [
        (
            model.bases[number], model.fields[number], sorted(model.tables[number].items()), model.rooms[number],
            model.order(number), model.owner(number), model.line(number), *model.layout(number), model.below(number),
            model.living(number),
        )
        for number in range(model.count())
    ]


def model_of_objects(model):
    """Return what picture_of_objects returns for objects like those of the model."""
    return [
        (item, model.objects[item]["class"], model.cells(item), model.room(item)) for item in sorted(model.objects)
    ]


class Pair:
    """A world with objects, and the model of both, to which the same is done."""

    def __init__(self, case, seed):
        self.case = case
        self.chance = random.Random(seed)
        self.world = World()
        self.objects = Objects(self.world)
        self.model = Model()
        self.told = {}

    def do(self, call, modelled):
        """Do one thing to both, compare what they tell, and return it."""
        try:
            wanted = ("told", modelled())
        except Refused as refused:
            wanted = refused.told
            lists = refused.lists
        try:
            found = ("told", call())
        except LineError as error:
            found = (type(error).__name__, {name: value for name, value in vars(error).items() if name != "why"})
            if isinstance(error, NoOrder):
                self.case.assertEqual(("ring", found[1].pop("ring")), merge(lists))
        self.case.assertEqual(found, wanted)
        self.count(found[0])
        return found

    def count(self, kind):
        """Count what came up."""
        self.told[kind] = self.told.get(kind, 0) + 1

    def spoil(self, told):
        """Take what a change of classes told."""

    def compare(self):
        """Compare all that can be asked."""
        case, world, model = self.case, self.world, self.model
        case.assertEqual(picture_of_world(world), model_of_world(model))
        case.assertEqual(picture_of_objects(self.objects), model_of_objects(model))
        for number in range(model.count()):
            case.assertEqual(names_of(world, number), model.names_of(number))
            case.assertEqual(hidden(world, number), model.hidden(number))
            case.assertEqual(self.objects.twins(number), model.twins(number))
            for name in NAMES:
                found = find(world, number, name)
                case.assertEqual(found, model.find(number, name))
                case.assertEqual(reader(world, number, name), model.reader(number, name))
                if found is not None and found[0] == "field":
                    case.assertEqual(world.layout(number).offset_of(name), found[2])

    # What is chosen is mostly possible, but not always.

    def some_class(self):
        return self.chance.randrange(self.model.count())

    def some_bases(self):
        many = min(self.model.count(), self.chance.choice([1, 1, 1, 2, 2, 3, 4]))
        return self.chance.sample(range(self.model.count()), many)

    def some_item(self):
        return self.chance.choice([*self.model.objects, self.model.made])

    def some_name(self):
        return self.chance.choice(NAMES)

    def make(self):
        fields = self.chance.sample(NAMES, self.chance.choice([0, 0, 0, 1, 1, 2]))
        pairs = [(self.some_name(), self.chance.randrange(9)) for _ in range(self.chance.choice([0, 0, 1, 2]))]
        self.make_of(self.some_bases(), fields, self.chance.random() < 0.2, pairs)

    def make_of(self, bases, fields, roomy, pairs):
        self.do(
            lambda: self.world.make_class(bases, fields, roomy=roomy, pairs=pairs),
            lambda: self.model.make_class(bases, fields, roomy, pairs),
        )

    def change_bases(self):
        number, bases = self.some_class(), self.some_bases()
        self.do(lambda: spoilt_by(self.world, number, bases), lambda: self.model.spoilt_by(number, bases))
        told = self.do(lambda: set_bases(self.world, number, bases), lambda: self.model.set_bases(number, bases))
        self.spoil(told)

    def change_value(self):
        number, name, value = self.some_class(), self.some_name(), self.chance.randrange(9)
        if self.chance.random() < 0.3:
            told = self.do(lambda: drop_value(self.world, number, name), lambda: self.model.drop_value(number, name))
        else:
            told = self.do(
                lambda: set_value(self.world, number, name, value), lambda: self.model.set_value(number, name, value)
            )
        self.spoil(told)

    def meet(self):
        numbers = [self.some_class() for _ in range(self.chance.randrange(5))]
        self.do(lambda: could_meet(self.world, numbers), lambda: self.model.meeting(numbers))

    def make_object(self):
        number = self.some_class()
        self.do(lambda: self.objects.new(number), lambda: self.model.new(number))

    def drop_object(self):
        item = self.some_item()
        self.do(lambda: self.objects.drop(item), lambda: self.model.drop(item))

    def use_object(self):
        item, name, value = self.some_item(), self.some_name(), self.chance.randrange(9)
        for call, modelled in self.chance.sample([
            (lambda: self.objects.read(item, name), lambda: self.model.read(item, name)),
            (lambda: self.objects.write(item, name, value), lambda: self.model.write(item, name, value)),
            (lambda: self.objects.erase(item, name), lambda: self.model.erase(item, name)),
        ], 2):
            self.do(call, modelled)

    def change_class(self):
        item, number = self.some_item(), self.some_class()
        if item in self.model.objects and self.chance.random() < 0.7:
            number = self.chance.choice(self.model.twins(self.model.objects[item]["class"]))
        self.do(lambda: self.objects.set_class(item, number), lambda: self.model.set_class(item, number))


class MachinePair(Pair):
    """Two machines more: one is told all that changes return, the other, beside its model, only some of it."""

    def __init__(self, case, seed):
        super().__init__(case, seed)
        self.machine = Machine(self.objects)
        self.partly = Machine(self.objects)
        self.plain = PlainMachine(self.model)
        self.left_out = set()
        for _ in range(6):
            self.make()

    def spoil(self, told):
        if told[0] != "told":
            return
        spoilt = told[1]
        self.machine.told(spoilt)
        some = [key for key in spoilt if self.chance.random() < 0.2]
        self.partly.told(some)
        self.plain.told(some)
        self.left_out.update(set(spoilt) - set(some))
        self.case.assertEqual(self.machine.stale(), [])
        self.case.assertEqual(self.partly.stale(), self.plain.stale())

    def compare(self):
        super().compare()
        self.case.assertEqual(self.machine.stale(), [])
        for number, name, kept in self.machine.kept():
            self.case.assertEqual(kept, self.model.reader(number, name))
        self.case.assertEqual(self.partly.kept(), self.plain.kept())
        self.case.assertEqual(self.partly.walks(), self.plain.walks)
        self.case.assertEqual(self.partly.stale(), self.plain.stale())
        self.case.assertLessEqual(set(self.partly.stale()), self.left_out)

    def make(self):
        """Make one of a few classes, with many fields, so that readers of cells are spoilt, too."""
        if self.model.count() < 8:
            fields = self.chance.sample(NAMES, self.chance.choice([0, 0, 1, 2, 2]))
            self.make_of([self.some_class()], fields, self.chance.random() < 0.4, [])

    def use(self, machine, modelled, item, name):
        """Read, write or erase by a machine, and do the same to a model of it or of the objects."""
        value = self.chance.randrange(9)
        word = self.chance.choice(["read", "write", "erase"])
        more = [value] if word == "write" else []
        told = self.do(
            lambda: getattr(machine, word)(item, name, *more), lambda: getattr(modelled, word)(item, name, *more)
        )
        return f"{word} {told[0]}"

    def use_machine(self):
        self.use(self.machine, self.model, self.some_item(), self.some_name())

    def use_partly(self):
        """Use the machine by any reader, or by a stale one if there is one of a living object."""
        stale = self.plain.stale()
        objects = self.model.objects
        chances = [(item, name) for number, name in stale for item in objects if objects[item]["class"] == number]
        if not chances or self.chance.random() < 0.3:
            self.use(self.partly, self.plain, self.some_item(), self.some_name())
            return
        item, name = self.chance.choice(chances)
        word, *rest = self.plain.reader(item, name) or ["nothing"]
        if word == "field" and rest[0] >= len(self.model.cells(item)):
            word = "no cell"
        for _ in range(3):
            self.count(f"{word} {self.use(self.partly, self.plain, item, name)}")

    def start_over(self):
        """Drop all objects, so that layouts may change, change some, and make other objects."""
        for item in list(self.model.objects):
            self.do(lambda: self.objects.drop(item), lambda: self.model.drop(item))
        for call in [self.change_bases] * 4 + [self.make_object] * 6:
            call()
