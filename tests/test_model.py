"""Long runs of changes, each compared with the plain model: points 0.5 and 3.4 to 6.5."""

import random
import unittest

from layoutline.changes import drop_value, set_bases, set_value, spoilt_by
from layoutline.errors import Collision, LineError, NoOrder
from layoutline.finding import could_meet, find, hidden, names_of, reader
from layoutline.objects import Objects
from layoutline.orders import merge, shows_merge
from layoutline.worlds import World
from tests.helpers import picture_of_objects, picture_of_world
from tests.model import Model, Refused

NAMES = ["a", "b", "c", "d", "e"]


def model_of_world(model):
    """Return what picture_of_world returns for a world like the model."""
    return [
        (
            model.bases[number], model.fields[number], sorted(model.tables[number].items()), model.rooms[number],
            model.order(number), model.owner(number), model.line(number), *model.layout(number), model.below(number),
            model.living(number),
        )
        for number in range(model.count())
    ]


def model_of_objects(model):
    """Return what picture_of_objects returns for objects like those of the model."""
    return [
        (item, model.objects[item]["class"], model.cells(item), model.room(item)) for item in sorted(model.objects)
    ]


class Pair:
    """A world with objects, and the model of both, to which the same is done."""

    def __init__(self, case, seed):
        self.case = case
        self.chance = random.Random(seed)
        self.world = World()
        self.objects = Objects(self.world)
        self.model = Model()
        self.told = {}

    def do(self, call, modelled):
        """Do one thing to both and compare what they tell."""
        try:
            wanted = ("told", modelled())
        except Refused as refused:
            wanted = refused.told
            lists = refused.lists
        try:
            found = ("told", call())
        except LineError as error:
            found = (type(error).__name__, {name: value for name, value in vars(error).items() if name != "why"})
            if isinstance(error, NoOrder):
                self.case.assertEqual(("ring", found[1].pop("ring")), merge(lists))
        self.case.assertEqual(found, wanted)
        self.told[found[0]] = self.told.get(found[0], 0) + 1

    def compare(self):
        """Compare all that can be asked."""
        case, world, model = self.case, self.world, self.model
        case.assertEqual(picture_of_world(world), model_of_world(model))
        case.assertEqual(picture_of_objects(self.objects), model_of_objects(model))
        for number in range(model.count()):
            case.assertEqual(names_of(world, number), model.names_of(number))
            case.assertEqual(hidden(world, number), model.hidden(number))
            case.assertEqual(self.objects.twins(number), model.twins(number))
            for name in NAMES:
                found = find(world, number, name)
                case.assertEqual(found, model.find(number, name))
                case.assertEqual(reader(world, number, name), model.reader(number, name))
                if found is not None and found[0] == "field":
                    case.assertEqual(world.layout(number).offset_of(name), found[2])

    # What is chosen is mostly possible, but not always.

    def some_class(self):
        return self.chance.randrange(self.model.count())

    def some_bases(self):
        many = min(self.model.count(), self.chance.choice([1, 1, 1, 2, 2, 3, 4]))
        return self.chance.sample(range(self.model.count()), many)

    def some_item(self):
        return self.chance.choice([*self.model.objects, self.model.made])

    def some_name(self):
        return self.chance.choice(NAMES)

    def make(self):
        bases = self.some_bases()
        fields = self.chance.sample(NAMES, self.chance.choice([0, 0, 0, 1, 1, 2]))
        pairs = [(self.some_name(), self.chance.randrange(9)) for _ in range(self.chance.choice([0, 0, 1, 2]))]
        roomy = self.chance.random() < 0.2
        self.do(
            lambda: self.world.make_class(bases, fields, roomy=roomy, pairs=pairs),
            lambda: self.model.make_class(bases, fields, roomy, pairs),
        )

    def change_bases(self):
        number, bases = self.some_class(), self.some_bases()
        self.do(lambda: spoilt_by(self.world, number, bases), lambda: self.model.spoilt_by(number, bases))
        self.do(lambda: set_bases(self.world, number, bases), lambda: self.model.set_bases(number, bases))

    def change_value(self):
        number, name, value = self.some_class(), self.some_name(), self.chance.randrange(9)
        if self.chance.random() < 0.3:
            self.do(lambda: drop_value(self.world, number, name), lambda: self.model.drop_value(number, name))
        else:
            self.do(
                lambda: set_value(self.world, number, name, value), lambda: self.model.set_value(number, name, value)
            )

    def meet(self):
        numbers = [self.some_class() for _ in range(self.chance.randrange(5))]
        self.do(lambda: could_meet(self.world, numbers), lambda: self.model.meeting(numbers))

    def make_object(self):
        number = self.some_class()
        self.do(lambda: self.objects.new(number), lambda: self.model.new(number))

    def drop_object(self):
        item = self.some_item()
        self.do(lambda: self.objects.drop(item), lambda: self.model.drop(item))

    def use_object(self):
        item, name, value = self.some_item(), self.some_name(), self.chance.randrange(9)
        for call, modelled in self.chance.sample([
            (lambda: self.objects.read(item, name), lambda: self.model.read(item, name)),
            (lambda: self.objects.write(item, name, value), lambda: self.model.write(item, name, value)),
            (lambda: self.objects.erase(item, name), lambda: self.model.erase(item, name)),
        ], 2):
            self.do(call, modelled)

    def change_class(self):
        item, number = self.some_item(), self.some_class()
        if item in self.model.objects and self.chance.random() < 0.7:
            number = self.chance.choice(self.model.twins(self.model.objects[item]["class"]))
        self.do(lambda: self.objects.set_class(item, number), lambda: self.model.set_class(item, number))


class Runs(unittest.TestCase):

    def run_once(self, seed, words, many):
        """Do many things by the words that say which, and return the pair."""
        pair = Pair(self, seed)
        for at in range(many):
            getattr(pair, pair.chance.choice(words))()
            if at % 10 == 0:
                pair.compare()
        pair.compare()
        return pair

    def run_all(self, words, many, kinds):
        """Do many runs, and see that each kind of telling came up."""
        told = {}
        for seed in range(20):
            with self.subTest(seed=seed):
                for kind, count in self.run_once(seed, words, many).told.items():
                    told[kind] = told.get(kind, 0) + count
        self.assertEqual([kind for kind in kinds if told.get(kind, 0) < 5], [])

    def test_classes_alone(self):
        words = ["make"] * 4 + ["meet"]
        self.run_all(words, 80, ["told", "Collision", "NoOrder", "HasRoom", "Duplicate", "TooMany"])

    def test_changes_of_classes(self):
        words = ["make"] * 2 + ["change_bases"] * 3 + ["change_value"]
        kinds = ["told", "Collision", "NoOrder", "HasRoom", "Duplicate", "BelowItself", "NoName"]
        self.run_all(words, 40, kinds)

    def test_objects(self):
        words = ["make"] + ["make_object"] * 2 + ["drop_object"] + ["use_object"] * 6 + ["change_class"]
        kinds = ["told", "NoObject", "NotSet", "NoName", "OtherLayout"]
        self.run_all(words, 60, kinds)

    def test_changes_while_objects_live(self):
        words = ["make"] * 3 + ["make_object"] + ["use_object"] * 2 + ["change_bases"] * 3 + ["change_value"] * 2
        kinds = ["told", "Collision", "NoOrder", "HasRoom", "BelowItself", "LayoutMoves", "NotSet", "NoName"]
        self.run_all(words, 50, kinds)


class Guarantee(unittest.TestCase):

    def test_bases_make_a_class_or_collide_or_stand_in_a_ring(self):
        told = []
        for seed in range(40):
            pair = Pair(self, seed)
            for _ in range(30):
                pair.make()
            for _ in range(20):
                world = pair.world
                bases = pair.some_bases()
                lists = [*[world.order(base) for base in bases], bases]
                if world.count() == 25:
                    break
                try:
                    number = world.make_class(bases, [])
                    told.append("made")
                    self.assertTrue(shows_merge(lists, ("order", world.order(number)[1:])))
                except Collision as error:
                    told.append("collision")
                    self.assertEqual((error.owners, error.offset, error.names), could_meet(world, bases))
                    self.assertEqual(error.number, world.count())
                except NoOrder as error:
                    told.append("ring")
                    self.assertIsNone(could_meet(world, bases))
                    self.assertTrue(shows_merge(lists, ("ring", error.ring)))
                    self.assertEqual(error.number, world.count())
        for kind in ("made", "collision", "ring"):
            self.assertGreater(told.count(kind), 20)


if __name__ == "__main__":
    unittest.main()
