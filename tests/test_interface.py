"""The interface, whole: where each name is defined, and calls by places and by names [2]."""

import ast
import copy
import importlib
import inspect
import pathlib
import unittest

from pagelend.desk import Desk
from pagelend.worlds import World
from world_help import SETUP, answer_of, told

PACKAGE = pathlib.Path(__file__).resolve().parent.parent / "pagelend"
FILES, CLIENTS, _, _ = SETUP
TEXT = "files home:2,log:1 clients ann:100:0,bo:100:0,cy:100:0 length 10 drift 10"
CLOCK = (89, 99)
LOG = [(0, "wrote", 0, "ann", "home", 0, 7), (1, "read", 1, "bo", "home", 0, 0)]
HISTORY = [(4, "write", 5, 0, 3), (7, "read", 5, 2, 6), (2, "read", 0, 1, 4)]
PLAN = (("ann", (("write", "home", 0, 5),)), ("bo", (("read", "home", 0),)))
RUN = [("next", "bo"), ("next", "ann"), *[("deliver", number) for number in [0, 2, 1, 3, 4, 5]]]
STEPS = [("read", "ann", "home", 0), ("pass", 0), ("pass", 1)]
SPAN = {"length": 10, "drift": 5}
# Of each function the arguments as they are written, and some calls: those handed in by
# places, then those by their names alone.
FUNCTIONS = {
    ("setups", "is_setup", "(thing)"): [([SETUP], {}), (["x"], {})],
    ("setups", "made", "(files, clients, *, length=20, drift=10)"): [
        ([FILES, CLIENTS], {}), ([FILES, CLIENTS], SPAN), ([CLIENTS, FILES], {})],
    ("clocks", "shown", "(clock, time)"): [([CLOCK, 10 ** 33], {})],
    ("clocks", "is_used", "(clock, asked, time, *, length=20, drift=10)"): [
        ([CLOCK, 8, 28], {}), ([CLOCK, 8, 28], SPAN)],
    ("clocks", "last_use", "(clock, asked, *, length=20, drift=10)"): [
        ([CLOCK, 8], {}), ([CLOCK, 8], SPAN)],
    ("clocks", "is_safe", "(clock, *, length=20, drift=10)"): [([CLOCK], {}), ([CLOCK], SPAN)],
    ("clocks", "first_unsafe", "(clock, *, length=20, drift=10)"): [
        ([CLOCK], {}), ([CLOCK], SPAN)],
    ("logs", "is_log", "(thing)"): [([LOG], {}), (["x"], {})],
    ("logs", "truth", "(log, file, page)"): [([LOG, "home", 0], {}), ([LOG, "home", 1], {})],
    ("logs", "first_stale", "(log)"): [([LOG], {}), ([LOG[:1]], {})],
    ("histories", "is_history", "(thing)"): [([HISTORY], {}), (["x"], {})],
    ("histories", "ordered", "(history)"): [([HISTORY], {})],
    ("histories", "is_order", "(history, tasks)"): [
        ([HISTORY, [2, 4, 7]], {}), ([HISTORY, [4, 2, 7]], {})],
    ("histories", "shows_none", "(history, reason)"): [([HISTORY, ("early", 7, 4)], {})],
    ("plans", "is_plan", "(setup, thing)"): [([SETUP, PLAN], {}), ([SETUP, "x"], {})],
    ("plans", "outcomes", "(setup, plan)"): [([SETUP, PLAN], {})],
    ("plans", "comes_to", "(setup, plan, run)"): [([SETUP, PLAN, RUN], {}), ([SETUP, PLAN, []], {})],
    ("texts", "setup_text", "(setup)"): [([SETUP], {})],
    ("texts", "step_text", "(step)"): [([STEPS[0]], {})],
    ("texts", "steps_text", "(steps)"): [([STEPS], {}), ([[]], {})],
    ("texts", "read_setup", "(text)"): [([TEXT], {}), (["x"], {}), ([None], {})],
    ("texts", "read_step", "(text)"): [(["pass 1"], {}), (["x"], {}), ([7], {})],
    ("texts", "read_steps", "(text)"): [(["pass 1\ncrash"], {}), (["crash\nx"], {}), ([[]], {})],
    ("playing", "play", "(setup, steps, *, most=300, halt=False)"): [
        ([SETUP, STEPS], {}), ([SETUP, STEPS], {"most": 1}), ([SETUP, STEPS], {"halt": True}),
        ([SETUP, STEPS], {"halt": True, "most": 1}), (["x", STEPS], {})]}
CLASSES = {
    ("worlds", "World"): {
        "__init__": "(self, setup, *, most=300)",
        "read": "(self, client, file, page)", "write": "(self, client, file, page, value)",
        "ask": "(self, client)", "go_on": "(self, ticks=1)", "deliver": "(self, number)",
        "drop": "(self, number)", "save": "(self, client, file)",
        "give_back": "(self, client, file)", "fall": "(self, client)", "crash": "(self)",
        "take_back": "(self)", "do": "(self, step)", "together": "(self, steps)",
        "time": "(self)", "quiet": "(self)", "sent": "(self)", "value": "(self, file, page)",
        "stamp": "(self, file, page)", "holds": "(self, file)", "queue": "(self, file)",
        "wire": "(self, *, to=None)", "lease": "(self, client, file)",
        "uses": "(self, client, file)", "held": "(self, client, file)",
        "dirty": "(self, client, file)", "asking": "(self, client, file)",
        "greatest": "(self, client, file)", "waiting": "(self, client)",
        "log": "(self, *, word=None, client=None, since=0)", "lost": "(self)",
        "__len__": "(self)", "__eq__": "(self, other)"},
    ("desk", "Desk"): {
        "__init__": "(self, text, *, lists=(), most=300)", "say": "(self, row)"}}
ERRORS = """LendError ToldError AskedError NoSetup NoText NoRow TooMany NoClient NoFile NoPage
NoValue NoTicks NoMessage Busy NotWaiting NoLease Clean NothingLeft NoList TooDeep""".split()
# What is done and looked at in a world, one behind the other.
CALLS = [
    ("write", ["ann", "home", 0, 7]), ("ask", ["ann"]), ("drop", [0]), ("queue", ["home"]),
    ("deliver", [1]), ("deliver", [2]), ("read", ["ann", "home", 0]), ("held", ["ann", "home"]),
    ("write", ["ann", "home", 1, 8]), ("dirty", ["ann", "home"]), ("save", ["ann", "home"]),
    ("deliver", [3]), ("value", ["home", 1]), ("stamp", ["home", 1]), ("holds", ["home"]),
    ("lease", ["ann", "home"]), ("uses", ["ann", "home"]), ("give_back", ["ann", "home"]),
    ("greatest", ["ann", "home"]), ("read", ["bo", "home", 1]), ("asking", ["bo", "home"]),
    ("waiting", ["bo"]), ("go_on", [3]), ("go_on", []), ("fall", ["ann"]), ("crash", []),
    ("do", [("pass", 2)]), ("together", [[("pass", 2), ("ask", "bo")]]), ("take_back", []),
    ("time", []), ("quiet", []), ("sent", []), ("lost", []), ("wire", []), ("log", []),
    ("read", ["zed", "home", 0]), ("write", ["ann", "home", 0, 0]), ("go_on", [0]),
    ("deliver", [99]), ("drop", [-1]), ("ask", ["ann"]), ("save", ["ann", "home"]),
    ("give_back", ["ann", "log"]), ("fall", ["zed"]), ("value", ["home", 2])]


def function(module, name):
    return getattr(importlib.import_module("pagelend." + module), name)


def by_names(function, places):
    """The arguments by their names, the last one first."""
    names = [name for name in inspect.signature(function).parameters if name != "self"]
    return dict(reversed(list(zip(names, places))))


class Defined(unittest.TestCase):
    def defined(self, module):
        tree = ast.parse((PACKAGE / (module + ".py")).read_text())
        return {node.name: node for node in tree.body
                if isinstance(node, (ast.FunctionDef, ast.ClassDef))}

    def test_functions_with_their_arguments(self):
        for module, name, arguments in FUNCTIONS:
            self.assertIsInstance(self.defined(module)[name], ast.FunctionDef)
            self.assertEqual(str(inspect.signature(function(module, name))), arguments)

    def test_classes_and_their_own_methods(self):
        for (module, name), methods in CLASSES.items():
            node = self.defined(module)[name]
            self.assertIsInstance(node, ast.ClassDef)
            own = [part.name for part in node.body if isinstance(part, ast.FunctionDef)]
            kind = function(module, name)
            for method, arguments in methods.items():
                self.assertIn(method, own)
                self.assertEqual(str(inspect.signature(vars(kind)[method])), arguments)

    def test_errors(self):
        for name in ERRORS:
            self.assertIsInstance(self.defined("errors")[name], ast.ClassDef)

    def test_numbers(self):
        told_numbers = [function("setups", name) for name in ["LENGTH", "DRIFT", "MOST"]]
        self.assertEqual(told_numbers, [20, 10, 300])


class Calls(unittest.TestCase):
    def test_functions_by_places_and_by_names(self):
        for (module, name, _), calls in FUNCTIONS.items():
            asked = function(module, name)
            for places, more in calls:
                handed = copy.deepcopy((places, more))
                expected = answer_of(lambda: asked(*places, **more))
                named = {**more, **by_names(asked, places)}
                self.assertEqual(answer_of(lambda: asked(**named)), expected, name)
                self.assertEqual(answer_of(lambda: asked(*places, **more)), expected, name)
                self.assertEqual((places, more), handed)

    def test_what_stands_behind_a_star_is_not_handed_in_by_place(self):
        for (module, name, arguments), calls in FUNCTIONS.items():
            if "*" in arguments:
                self.assertRaises(TypeError, function(module, name), *calls[0][0], 10)
        self.assertRaises(TypeError, World, SETUP, 10)
        self.assertRaises(TypeError, Desk, TEXT, ())
        self.assertRaises(TypeError, World(SETUP).wire, "ann")
        self.assertRaises(TypeError, World(SETUP).log, "read")

    def test_a_world_by_places_and_by_names(self):
        one, other = World(SETUP), World(setup=SETUP)
        for name, places in CALLS:
            expected = answer_of(getattr(one, name), *places)
            asked = getattr(other, name)
            self.assertEqual(answer_of(lambda: asked(**by_names(asked, places))), expected, name)
            self.assertEqual(told(one), told(other), name)
            self.assertEqual(one, other)

    def test_what_is_told_of_a_part(self):
        world = World(SETUP)
        for name, places in CALLS:
            answer_of(getattr(world, name), *places)
        log, wire = world.log(), world.wire()
        self.assertEqual(world.log(word=None, client=None, since=0), log)
        self.assertEqual(world.wire(to=None), wire)
        for word in ["began", "read", "wrote", "lost", "x", ""]:
            rows = [row for row in log if row[1] == word]
            self.assertEqual(world.log(word=word), rows)
            for client in ["ann", "bo", "zed"]:
                part = [row for row in rows if row[3] == client]
                self.assertEqual(world.log(client=client, word=word), part)
        for since in [0, 1, 3, 4, 5, 10 ** 60]:
            self.assertEqual(world.log(since=since), [row for row in log if row[0] >= since])
        for to in ["ann", "bo", "server", "zed", ""]:
            self.assertEqual(world.wire(to=to), [row for row in wire if row[2] == to])

    def test_every_method_is_called_here(self):
        called = {name for name, _ in CALLS} | {"__init__", "__len__", "__eq__"}
        self.assertEqual(called, set(CLASSES["worlds", "World"]))

    def test_a_desk_by_places_and_by_names(self):
        one, other = Desk(TEXT), Desk(text=TEXT)
        for row in ["pass 1", "time", "pass 0", "said", "do a", None, "said"]:
            self.assertEqual(answer_of(one.say, row), answer_of(lambda: other.say(row=row)))
        desk = Desk(most=1, lists=(("a", ("pass 1",)),), text=TEXT)
        self.assertEqual(answer_of(desk.say, "do a"), "done")
        self.assertEqual(answer_of(desk.say, "do a"), ("TooMany", 1))


class Lists(unittest.TestCase):
    """Lists told are the asker's own, whatever is done to them or later."""

    def test_of_functions(self):
        for (module, name, _), calls in FUNCTIONS.items():
            asked = function(module, name)
            for places, more in calls:
                first = answer_of(lambda: asked(*places, **more))
                before = copy.deepcopy(first)
                self.spoil(answer_of(lambda: asked(*places, **more)))
                self.assertEqual(first, before, name)
                self.assertEqual(answer_of(lambda: asked(*places, **more)), before, name)

    def spoil(self, thing):
        """Change all lists within a thing that is told."""
        if isinstance(thing, (list, tuple)):
            for part in thing:
                self.spoil(part)
        if isinstance(thing, list):
            thing.reverse()
            thing.append("spoilt")

    def test_of_a_world(self):
        world = World(SETUP)
        for name, places in CALLS:
            before = copy.deepcopy(told(world))
            self.spoil(list(told(world).values()))
            self.assertEqual(told(world), before)
            kept = told(world)
            answer_of(getattr(world, name), *places)
            self.assertEqual(kept, before, name)

    def test_handed_in_and_changed_behind_the_call(self):
        steps = [("write", "ann", "home", 0, 7), ("deliver", 0)]
        world = World(SETUP)
        world.together(steps)
        steps.clear()
        steps.append(("crash",))
        other = World(SETUP)
        other.do(("write", "ann", "home", 0, 7))
        other.do(("deliver", 0))
        self.assertEqual(world, other)
        world.take_back()
        self.assertEqual(world, World(SETUP))


if __name__ == "__main__":
    unittest.main()
