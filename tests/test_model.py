"""Long runs of changes, each compared with the plain model: points 0.5, 3.4 to 6.5 and 9.1 to 9.5."""

import unittest

from layoutline.errors import Collision, NoOrder
from layoutline.finding import could_meet
from layoutline.orders import shows_merge
from tests.pairs import MachinePair, Pair


class Running(unittest.TestCase):

    kind_of_pair = Pair

    def run_once(self, seed, words, many):
        """Do many things by the words that say which, and return the pair."""
        pair = self.kind_of_pair(self, seed)
        for at in range(many):
            getattr(pair, pair.chance.choice(words))()
            if at % 10 == 0:
                pair.compare()
        pair.compare()
        return pair

    def run_all(self, words, many, kinds):
        """Do many runs, and see that each kind of telling came up."""
        told = {}
        for seed in range(20):
            with self.subTest(seed=seed):
                for kind, count in self.run_once(seed, words, many).told.items():
                    told[kind] = told.get(kind, 0) + count
        self.assertEqual([kind for kind in kinds if told.get(kind, 0) < 5], [])


class Runs(Running):

    def test_classes_alone(self):
        words = ["make"] * 4 + ["meet"]
        self.run_all(words, 80, ["told", "Collision", "NoOrder", "HasRoom", "Duplicate", "TooMany"])

    def test_changes_of_classes(self):
        words = ["make"] * 2 + ["change_bases"] * 3 + ["change_value"]
        kinds = ["told", "Collision", "NoOrder", "HasRoom", "Duplicate", "BelowItself", "NoName"]
        self.run_all(words, 40, kinds)

    def test_objects(self):
        words = ["make"] + ["make_object"] * 2 + ["drop_object"] + ["use_object"] * 6 + ["change_class"]
        kinds = ["told", "NoObject", "NotSet", "NoName", "OtherLayout"]
        self.run_all(words, 60, kinds)

    def test_changes_while_objects_live(self):
        words = ["make"] * 3 + ["make_object"] + ["use_object"] * 2 + ["change_bases"] * 3 + ["change_value"] * 2
        kinds = ["told", "Collision", "NoOrder", "HasRoom", "BelowItself", "LayoutMoves", "NotSet", "NoName"]
        self.run_all(words, 50, kinds)


class MachineRuns(Running):
    """A machine that is told everything against the objects, and one that is not against its model."""

    kind_of_pair = MachinePair

    def test_machines(self):
        words = ["make", "change_class", "use_object"] + ["make_object"] * 4 + ["drop_object"] * 2
        words += ["use_machine"] * 6 + ["use_partly"] * 12 + ["change_bases", "change_value"] * 3 + ["start_over"]
        stale = [
            f"{kept} {word} {told}" for kept in ("no cell", "value", "nothing") for word in ("read", "write", "erase")
            for told in ("told", "NoName")
        ]
        stale += ["field read told", "field read NotSet", "field write told", "field erase told", "field erase NotSet"]
        self.run_all(words, 300, ["told", "NoObject", "NotSet", "NoName", *stale])


class Guarantee(unittest.TestCase):

    def test_bases_make_a_class_or_collide_or_stand_in_a_ring(self):
        told = []
        for seed in range(40):
            pair = Pair(self, seed)
            for _ in range(30):
                pair.make()
            for _ in range(20):
                world = pair.world
                bases = pair.some_bases()
                lists = [*[world.order(base) for base in bases], bases]
                if world.count() == 25:
                    break
                try:
                    number = world.make_class(bases, [])
                    told.append("made")
                    self.assertTrue(shows_merge(lists, ("order", world.order(number)[1:])))
                except Collision as error:
                    told.append("collision")
                    self.assertEqual((error.owners, error.offset, error.names), could_meet(world, bases))
                    self.assertEqual(error.number, world.count())
                except NoOrder as error:
                    told.append("ring")
                    self.assertIsNone(could_meet(world, bases))
                    self.assertTrue(shows_merge(lists, ("ring", error.ring)))
                    self.assertEqual(error.number, world.count())
        for kind in ("made", "collision", "ring"):
            self.assertGreater(told.count(kind), 20)


if __name__ == "__main__":
    unittest.main()
