"""Steps played with a new world: answers, refusals by name, halting, the world [18, 26]."""

import copy
import inspect
import random
import unittest

from pagelend import playing
from pagelend.errors import LendError, NoSetup
from pagelend.playing import play
from pagelend.worlds import World
from plain_model import Model, Refused
from test_world_runs import drawn_setup, drawn_step
from things import anything
from world_help import SETUP, answer_of, told

# Each refusal that a step can come to, with steps ahead of it and the step.
WAITS = [("read", "ann", "home", 0)]
READS = [*WAITS, ("deliver", 0), ("deliver", 1)]
WRITES = [("write", "ann", "home", 0, 7), ("deliver", 0), ("deliver", 1)]
REFUSED = [
    ("NoClient", [], ("read", "zed", "home", 0)), ("NoClient", [], ("read", "server", "home", 0)),
    ("NoClient", [], ("write", "zed", "home", 0, 1)), ("NoClient", [], ("ask", "zed")),
    ("NoClient", [], ("save", "zed", "home")), ("NoClient", [], ("yield", "zed", "home")),
    ("NoClient", [], ("fall", "zed")),
    ("NoFile", [], ("read", "ann", "zed", 0)), ("NoFile", [], ("write", "ann", "zed", 0, 1)),
    ("NoFile", [], ("save", "ann", "zed")), ("NoFile", [], ("yield", "ann", "zed")),
    ("NoPage", [], ("read", "ann", "home", 2)), ("NoPage", [], ("read", "ann", "log", 1)),
    ("NoPage", [], ("write", "ann", "home", 2, 1)), ("NoPage", [], ("read", "ann", "home", 10 ** 11)),
    ("NoValue", [], ("write", "ann", "home", 0, 0)),
    ("NoValue", [], ("write", "ann", "home", 0, 1000)),
    ("Busy", WAITS, ("read", "ann", "home", 0)), ("Busy", WAITS, ("write", "ann", "log", 0, 1)),
    ("NotWaiting", [], ("ask", "ann")), ("NotWaiting", READS, ("ask", "ann")),
    ("NoTicks", [], ("pass", 0)), ("NoTicks", [], ("pass", 10 ** 6 + 1)),
    ("NoMessage", [], ("deliver", 0)), ("NoMessage", [], ("drop", 0)),
    ("NoMessage", READS, ("deliver", 0)), ("NoMessage", READS, ("drop", 2)),
    ("Clean", [], ("save", "ann", "home")), ("Clean", READS, ("save", "ann", "home")),
    ("Clean", WRITES, ("save", "ann", "log")),
    ("NoLease", [], ("yield", "ann", "home")), ("NoLease", READS, ("yield", "ann", "log")),
    # Two at once: the one told first goes first.
    ("NoClient", [], ("write", "zed", "zed", 9, 0)), ("NoFile", [], ("write", "ann", "zed", 9, 0)),
    ("NoPage", [], ("write", "ann", "home", 9, 0)),
    ("NoValue", WAITS, ("write", "ann", "home", 0, 0)), ("NoClient", [], ("save", "zed", "zed")),
    ("NoClient", [], ("yield", "zed", "zed"))]
# One world's steps with what they are answered, refusals among them.
STORY = [
    (("read", "ann", "home", 0), "waits"), (("read", "ann", "home", 0), "Busy"),
    (("ask", "bo"), "NotWaiting"), (("drop", 0), "done"), (("ask", "ann"), "done"),
    (("deliver", 0), "NoMessage"), (("deliver", 1), "done"), (("deliver", 2), "done"),
    (("read", "ann", "home", 0), 0), (("save", "ann", "home"), "Clean"),
    (("write", "ann", "home", 1, 5), "waits"), (("deliver", 3), "done"), (("deliver", 4), "done"),
    (("write", "ann", "home", 0, 1000), "NoValue"), (("write", "ann", "home", 0, 6), "done"),
    (("read", "ann", "home", 0), 6), (("read", "ann", "home", 1), 5),
    (("pass", 0), "NoTicks"), (("pass", 2), "done"), (("save", "ann", "home"), "done"),
    (("yield", "ann", "home"), "done"), (("yield", "ann", "home"), "NoLease"),
    (("fall", "ann"), "done"), (("fall", "zed"), "NoClient"), (("crash",), "done"),
    (("read", "ann", "zed", 0), "NoFile"), (("read", "ann", "home", 2), "NoPage"),
    (("deliver", 5), "done")]
STEPS = [step for step, _ in STORY]
ANSWERS = [answer for _, answer in STORY]
NAMES = {name for name, _, _ in REFUSED} | {"TooMany"}


def done_alone(setup, steps, most=300):
    """A world that did just those of the steps that are not refused."""
    world = World(setup, most=most)
    for step in steps:
        answer_of(world.do, step)
    return world


class Playing(unittest.TestCase):
    def plays(self, steps, expected, setup=SETUP, **more):
        before = copy.deepcopy(steps)
        told_rows = play(setup, steps, **more)
        self.assertEqual((type(told_rows), len(told_rows)), (tuple, 2))
        answers, world = told_rows
        self.assertIs(type(answers), list)
        self.assertEqual(answers, expected)
        self.assertEqual([type(answer) for answer in answers], [type(row) for row in expected])
        self.assertIs(type(world), World)
        self.assertEqual(steps, before)
        again = play(setup, steps, **more)
        self.assertEqual(again, (answers, world))
        self.assertIsNot(again[1], world)
        return world

    def test_answers(self):
        world = self.plays(STEPS, ANSWERS)
        self.assertEqual(world, done_alone(SETUP, STEPS))
        self.assertEqual(world.value("home", 0), 6)

    def test_no_steps(self):
        world = self.plays([], [])
        self.assertEqual(world, World(SETUP))
        self.assertEqual(told(world), told(World(SETUP)))
        self.plays([], [], halt=True)

    def test_each_refusal_by_its_name(self):
        for name, ahead, step in REFUSED:
            answers, world = play(SETUP, [*ahead, step])
            self.assertEqual(answers[-1], name, step)
            self.assertEqual(len(answers), len(ahead) + 1)
            self.assertEqual(world, done_alone(SETUP, ahead))
            self.assertEqual(told(world), told(done_alone(SETUP, ahead)))

    def test_the_names_are_those_of_classes_that_refuse(self):
        self.assertEqual(len(NAMES), 11)
        for name, ahead, step in REFUSED:
            world = done_alone(SETUP, ahead)
            with self.assertRaises(LendError) as caught:
                world.do(step)
            self.assertEqual(type(caught.exception).__name__, name)

    def test_what_is_refused_changes_nothing(self):
        kept = [step for step, answer in STORY if answer not in NAMES]
        answers, world = play(SETUP, kept)
        self.assertEqual(answers, [answer for answer in ANSWERS if answer not in NAMES])
        self.assertEqual(world, play(SETUP, STEPS)[1])
        self.assertEqual(told(world), told(play(SETUP, STEPS)[1]))

    def test_halting_at_the_first_refused_step(self):
        for name, ahead, step in REFUSED:
            expected = [*play(SETUP, ahead)[0], name]
            for behind in [[], [("pass", 1)], [step], [("crash",), ("pass", 2)]]:
                world = self.plays([*ahead, step, *behind], expected, halt=True)
                self.assertEqual(world, done_alone(SETUP, ahead))

    def test_halting_where_none_is_refused(self):
        kept = [step for step, answer in STORY if answer not in NAMES]
        self.assertEqual(play(SETUP, kept, halt=True), play(SETUP, kept))

    def test_halting_is_left_out(self):
        steps = [("pass", 0), ("pass", 1), ("pass", 0), ("pass", 2)]
        expected = ["NoTicks", "done", "NoTicks", "done"]
        self.assertEqual(self.plays(steps, expected).time(), 3)
        self.assertEqual(self.plays(steps, expected, halt=False).time(), 3)
        self.assertEqual(self.plays(steps, expected[:1], halt=True).time(), 0)

    def test_at_most_so_many_things(self):
        steps = [("pass", 1)] * 8
        for most in [1, 2, 7, 8, 9, 300]:
            many = min(most, 8)
            world = self.plays(steps, ["done"] * many + ["TooMany"] * (8 - many), most=most)
            self.assertEqual(world.time(), many)
            halted = ["done"] * many + ["TooMany"] * (most < 8)
            self.assertEqual(self.plays(steps, halted, most=most, halt=True).time(), many)

    def test_too_many_is_behind_the_other_refusals(self):
        steps = [("pass", 1), ("pass", 0), ("ask", "zed"), ("pass", 1), ("deliver", 0), ("crash",)]
        expected = ["done", "NoTicks", "NoClient", "TooMany", "NoMessage", "TooMany"]
        self.plays(steps, expected, most=1)

    def test_what_is_refused_does_not_count(self):
        steps = [("pass", 0), ("pass", 1)] * 3
        self.plays(steps, ["NoTicks", "done"] * 2 + ["NoTicks", "TooMany"], most=2)

    def test_most_is_300_and_goes_on_with_the_world(self):
        steps = [("pass", 1)] * 200
        world = self.plays(steps, ["done"] * 200)
        for _ in range(100):
            world.go_on()
        self.assertEqual(answer_of(world.go_on), ("TooMany", 300))
        world = self.plays(steps, ["done"] * 5 + ["TooMany"] * 195, most=5)
        self.assertEqual(answer_of(world.go_on), ("TooMany", 5))

    def test_each_step_can_be_taken_back(self):
        world = play(SETUP, [("pass", 1), ("pass", 0), ("pass", 2)])[1]
        world.take_back()
        self.assertEqual(world.time(), 1)
        world.take_back()
        self.assertEqual(world, World(SETUP))
        self.assertEqual(answer_of(world.take_back), ("NothingLeft",))

    def test_no_setup_of_anything(self):
        files, clients, length, drift = SETUP
        for thing in [*anything(), SETUP[:3], list(SETUP), (files, clients, 1, drift),
                      (files, clients, length, 51), (clients, files, length, drift)]:
            before = copy.deepcopy(thing)
            for steps in [[], [("pass", 1)], [("pass", 0)]]:
                self.assertRaises(NoSetup, play, thing, steps)
                self.assertRaises(NoSetup, play, thing, steps, most=1, halt=True)
            self.assertEqual(thing, before)

    def test_worlds_are_new_and_lists_the_askers_own(self):
        steps = list(STEPS)
        answers, world = play(SETUP, steps)
        steps.clear()
        again, other = play(SETUP, STEPS)
        again.append("x")
        other.go_on()
        self.assertEqual(answers, ANSWERS)
        self.assertEqual(world, done_alone(SETUP, STEPS))
        self.assertEqual(play(SETUP, STEPS), (ANSWERS, world))

    def test_drawn_steps_against_the_plain_model(self):
        for seed in range(40):
            draw = random.Random(seed)
            setup = drawn_setup(draw)
            most = draw.choice([30, 90, 300])
            model = Model(setup, most=most)
            steps, expected = [], []
            for _ in range(draw.choice([20, 200])):
                steps.append(drawn_step(draw, model))
                try:
                    expected.append(model.do(steps[-1]))
                except Refused as refusal:
                    expected.append(refusal.name)
            answers, world = play(setup, steps, most=most)
            self.assertEqual(answers, expected)
            self.assertEqual(told(world, setup), model.told())
            ends = [at for at, answer in enumerate(expected) if answer in NAMES]
            halted, _ = play(setup, steps, most=most, halt=True)
            self.assertEqual(halted, expected[:ends[0] + 1] if ends else expected)


class Interface(unittest.TestCase):
    def test_the_function(self):
        parts = "(setup, steps, *, most=300, halt=False)"
        self.assertEqual(str(inspect.signature(play)), parts)
        self.assertEqual(playing.play.__module__, "pagelend.playing")
        self.assertRaises(TypeError, play, SETUP, [], 5)

    def test_by_names(self):
        answers, world = play(halt=True, most=2, steps=[("pass", 1)] * 4, setup=SETUP)
        self.assertEqual(answers, ["done", "done", "TooMany"])
        self.assertEqual(world.time(), 2)


if __name__ == "__main__":
    unittest.main()
