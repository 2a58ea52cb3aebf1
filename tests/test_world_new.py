"""A new world, and the interface [6, 16]."""

import copy
import inspect
import unittest

from pagelend import worlds
from pagelend.errors import NoSetup
from pagelend.worlds import World
from things import nested
from world_help import SETUP, told

GREAT = (
    (("a", 4), ("b", 1), ("zzzzzzzz", 3)),
    (("a", 50, 0), ("b", 200, 99), ("c", 100, 7), ("zzzzzzzz", 95, 50)), 1000, 50)
SMALL = ((("server", 1),), (("a", 50, 0),), 2, 0)
NO_SETUPS = [
    None, True, False, 0, 1, -1, 10 ** 60, "", "home", "x" * 10000, [], (), [[]], ((),),
    list(SETUP), SETUP[:3], SETUP + (1,), (SETUP,), [SETUP], ((), (), 10, 10),
    ([("home", 1)], SETUP[1], 10, 10), (SETUP[0], list(SETUP[1]), 10, 10),
    (SETUP[0], SETUP[1], 1, 10), (SETUP[0], SETUP[1], 1001, 10), (SETUP[0], SETUP[1], 10, 51),
    (SETUP[0], SETUP[1], True, 10), (SETUP[0], (("server", 100, 0),), 10, 10),
    (SETUP[0], (("bo", 100, 0), ("ann", 100, 0)), 10, 10), ((("home", 5),), SETUP[1], 10, 10),
    nested(20, list), nested(20, tuple), [0] * 1100, (0,) * 1100]


class NewWorlds(unittest.TestCase):
    def test_all_is_nought_none_or_empty(self):
        for setup in [SETUP, GREAT, SMALL]:
            world = World(setup)
            files, clients, _, _ = setup
            expected = {"time": 0, "quiet": 0, "sent": 0, "wire": [], "log": [], "lost": []}
            for file, pages in files:
                expected[file, "values"] = [0] * pages
                expected[file, "stamps"] = [(0, 0)] * pages
                expected[file, "queue"] = []
                expected[file, "holds"] = []
            for client, _, _ in clients:
                expected[client, "waiting"] = None
                for file, _ in files:
                    expected[client, file] = (None, False, (), [], None, 0)
            self.assertEqual(told(world, setup), expected)
            self.assertEqual(len(world), 0)

    def test_the_kinds_of_what_is_told(self):
        world = World(SETUP)
        for look in [world.time, world.quiet, world.sent, world.__len__]:
            self.assertIs(type(look()), int)
        self.assertIs(type(world.value("home", 0)), int)
        self.assertIs(type(world.stamp("home", 0)), tuple)
        self.assertIs(type(world.held("ann", "home")), tuple)
        self.assertIs(world.uses("ann", "home"), False)
        self.assertIs(type(world.greatest("ann", "home")), int)
        for told_list in [
                world.holds("home"), world.queue("home"), world.wire(), world.log(),
                world.lost(), world.dirty("ann", "home")]:
            self.assertIs(type(told_list), list)

    def test_no_setup_of_anything(self):
        for thing in NO_SETUPS:
            before = copy.deepcopy(thing)
            self.assertRaises(NoSetup, World, thing)
            self.assertRaises(NoSetup, World, setup=thing, most=5)
            self.assertEqual(thing, before)

    def test_no_world_without_a_setup(self):
        self.assertRaises(TypeError, World)
        self.assertRaises(TypeError, World, SETUP, 300)


class Interface(unittest.TestCase):
    ARGUMENTS = {
        "__init__": "(self, setup, *, most=300)",
        "read": "(self, client, file, page)", "write": "(self, client, file, page, value)",
        "ask": "(self, client)", "go_on": "(self, ticks=1)", "deliver": "(self, number)",
        "drop": "(self, number)", "save": "(self, client, file)",
        "give_back": "(self, client, file)", "fall": "(self, client)", "crash": "(self)",
        "take_back": "(self)", "do": "(self, step)", "together": "(self, steps)",
        "time": "(self)", "quiet": "(self)", "sent": "(self)", "value": "(self, file, page)",
        "stamp": "(self, file, page)", "holds": "(self, file)", "queue": "(self, file)",
        "wire": "(self, *, to=None)", "lease": "(self, client, file)",
        "uses": "(self, client, file)", "held": "(self, client, file)",
        "dirty": "(self, client, file)", "asking": "(self, client, file)",
        "greatest": "(self, client, file)", "waiting": "(self, client)",
        "log": "(self, *, word=None, client=None, since=0)", "lost": "(self)",
        "__len__": "(self)", "__eq__": "(self, other)"}

    def test_each_method_is_in_the_class_itself_with_its_arguments(self):
        for name, arguments in self.ARGUMENTS.items():
            self.assertIn(name, vars(World))
            self.assertEqual(str(inspect.signature(vars(World)[name])), arguments, name)

    def test_the_class_is_defined_in_its_file(self):
        self.assertEqual(World.__module__, "pagelend.worlds")
        self.assertIs(worlds.World, World)

    def test_arguments_by_their_names(self):
        world = World(most=9, setup=SETUP)
        self.assertIsNone(world.read(page=0, file="home", client="ann"))
        self.assertIsNone(world.ask(client="ann"))
        self.assertIsNone(world.drop(number=0))
        self.assertIsNone(world.deliver(number=1))
        self.assertIsNone(world.go_on(ticks=1))
        self.assertIsNone(world.write(value=3, page=1, client="bo", file="home"))
        self.assertIsNone(world.fall(client="bo"))
        self.assertEqual(world.do(step=("pass", 1)), "done")
        self.assertEqual(world.together(steps=[("pass", 1)]), ["done"])
        self.assertEqual(world.value(page=1, file="home"), 0)
        self.assertEqual(world.stamp(page=1, file="home"), (0, 0))
        self.assertEqual(world.holds(file="home"), [("ann", "read", 1, 1, 10, False, 1)])
        self.assertEqual(world.queue(file="home"), [])
        self.assertEqual([row[0] for row in world.wire(to="ann")], [2])
        for look, nothing in [
                (world.lease, None), (world.uses, False), (world.held, ()), (world.dirty, []),
                (world.greatest, 0)]:
            self.assertEqual(look(file="log", client="bo"), nothing)
        self.assertEqual(world.asking(file="home", client="ann"), (1, 0))
        self.assertEqual(world.waiting(client="ann"), (0, "read", "home", 0, None))
        self.assertEqual(world.log(since=1, client="bo", word="began"), [
            (1, "began", 1, "bo", "home", 1, 3)])


if __name__ == "__main__":
    unittest.main()
